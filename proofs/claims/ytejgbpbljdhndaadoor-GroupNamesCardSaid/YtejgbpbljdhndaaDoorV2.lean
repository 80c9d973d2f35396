import Derived.WalkKit
namespace Go.Proofs.YtejgbpbljdhndaaDoor
open Go Go.RowKit
abbrev Bs:=List UInt8
abbrev Sp:=UInt8 × UInt8
structure Gl where
 kind:Int
 byte:UInt8
 spans:List Sp
theorem y5d (P:UInt8→Prop) (h:∀ n,n<256→P (UInt8.ofNat n)) (c:UInt8):P c:=by
 have:=h c.toNat (UInt8.toNat_lt c);rwa [UInt8.ofNat_toNat] at this
def okS (s:Sp):Bool:=decide ((s.1.toNat:Int)≤(s.2.toNat:Int))
def sgI:Bs:=[93,45,92]
def esc (sg:Bs) (c:UInt8):Bs:=if c∈sg then [92,c] else [c]
def itemT (s:Sp):Bs:=esc sgI s.1++if (s.1.toNat:Int)<(s.2.toNat:Int) then 45::esc sgI s.2 else []
inductive Res (α:Type) where
 | bad (q:Nat) | ok (a:α) (q:Nat)
def rb (sg s:Bs) (k:Nat):Res UInt8:=
 match s.drop k with
 | []=> .bad k
 | c::r=>if c=92 then (match r with
  | []=> .bad (k+1)
  | d::_=> .ok d (k+2)) else if c∈sg then .bad k else .ok c (k+1)
def item (s:Bs) (k:Nat):Res Sp:=
 match rb sgI s k with
 | .bad q=> .bad q
 | .ok lo q=>if s[q]?=some 45 then (match rb sgI s (q+1) with
   | .bad q2=> .bad q2
   | .ok hi q2=>if (hi.toNat:Int)<(lo.toNat:Int) then .bad (q2 - 1) else .ok (lo,hi) q2)
   else .ok (lo,lo) q
def goS (s:Bs) (k:Nat) (acc:List Sp):Res (List Sp):=
 if acc≠[]∧s[k]?=some 93 then .ok acc (k+1) else match item s k with
  | .bad q=> .bad q
  | .ok sp q=>if k<q∧q≤s.length then goS s q (acc++[sp]) else .bad q
termination_by s.length - k
decreasing_by omega
def piece (s:Bs) (k:Nat):Res Gl:=
 if s[k]?=some 42 then .ok ⟨2,0,[]⟩ (k+1) else if s[k]?=some 63 then .ok ⟨1,0,[]⟩ (k+1)
 else if s[k]?=some 91 then (match goS s (k+1) [] with
  | .bad q=> .bad q
  | .ok l q=> .ok ⟨3,0,l⟩ q)
 else match rb [] s k with
  | .bad q=> .bad q
  | .ok b q=> .ok ⟨0,b,[]⟩ q
theorem rb_bd {sg s:Bs} {k:Nat} (h:k≤s.length):match rb sg s k with
  | .bad q=>k≤q∧q≤s.length
  | .ok _ q=>k<q∧q≤s.length:=by
 unfold rb;have hl:=List.length_drop (i:=k) (l:=s)
 rcases hd:s.drop k with _ | ⟨c,r⟩
 ·exact⟨Nat.le_refl _,h⟩
 ·rw[hd] at hl
  simp only[List.length_cons] at hl;dsimp only
  split
  ·rename_i q heq
   split at heq
   ·rcases r with _ | ⟨d,r⟩
    ·injection heq with heq;subst heq;omega
    ·cases heq
   ·split at heq
    ·injection heq with heq;subst heq;omega
    ·cases heq
  ·rename_i b q heq
   split at heq
   ·rcases r with _ | ⟨d,r⟩
    ·cases heq
    ·injection heq with _ heq;subst heq;simp at hl;omega
   ·split at heq
    ·cases heq
    ·injection heq with _ heq;subst heq;omega
theorem y4x {sg s:Bs} {k q:Nat} (h:k≤s.length) (hr:rb sg s k= .bad q):k≤q∧q≤s.length:=by
 have:=rb_bd (sg:=sg) h;rw[hr] at this;exact this
theorem rb_ok {sg s:Bs} {k q:Nat} {c:UInt8} (h:k≤s.length) (hr:rb sg s k= .ok c q):k<q∧q≤s.length:=by
 have:=rb_bd (sg:=sg) h;rw[hr] at this;exact this
theorem z0r {s:Bs} {k:Nat} {c:UInt8} (h:s[k]?=some c):k<s.length:=(List.getElem?_eq_some_iff.1 h).1
theorem y5s {s:Bs} {k:Nat} (h:k≤s.length):match item s k with
  | .bad q=>k≤q∧q≤s.length
  | .ok _ q=>k<q∧q≤s.length:=by
 unfold item
 rcases hr:rb sgI s k with q | ⟨lo,q⟩
 ·exact y4x h hr
 ·obtain⟨a,b⟩:=rb_ok h hr
  dsimp only;by_cases h45:s[q]?=some 45
  ·rw[if_pos h45]
   have hq:=z0r h45
   rcases hr2:rb sgI s (q+1) with q2 | ⟨hi,q2⟩
   ·obtain⟨c,d⟩:=y4x (by omega) hr2
    exact⟨by omega,d⟩
   ·obtain⟨c,d⟩:=rb_ok (by omega) hr2
    dsimp only;by_cases hlt:(hi.toNat:Int)<(lo.toNat:Int)
    ·rw[if_pos hlt];exact⟨by omega,by omega⟩
    ·rw[if_neg hlt];exact⟨by omega,d⟩
  ·rw[if_neg h45];exact⟨a,b⟩
theorem y9s {s:Bs} {k q:Nat} (h:k≤s.length) (hr:item s k= .bad q):k≤q∧q≤s.length:=by
 have:=y5s h;rw[hr] at this;exact this
theorem z66 {s:Bs} {k q:Nat} {c:Sp} (h:k≤s.length) (hr:item s k= .ok c q):k<q∧q≤s.length:=by
 have:=y5s h;rw[hr] at this;exact this
theorem z8q {s:Bs} {k:Nat} {acc:List Sp} (h:acc≠[]) (h1:s[k]?=some 93):goS s k acc= .ok acc (k+1):=by
 rw[goS,if_pos ⟨h,h1⟩]
theorem z2j {s:Bs} {k q:Nat} {acc:List Sp} (h:¬ (acc≠[]∧s[k]?=some 93)) (h1:item s k= .bad q):goS s k acc= .bad q:=by
 rw[goS,if_neg h,h1]
theorem z3u {s:Bs} {k q:Nat} {acc:List Sp} {sp:Sp} (h:¬ (acc≠[]∧s[k]?=some 93)) (hk:k≤s.length) (h1:item s k= .ok sp q):goS s k acc=goS s q (acc++[sp]):=by
 obtain⟨a,b⟩:=z66 hk h1;rw[goS,if_neg h,h1];exact if_pos ⟨a,b⟩
theorem y00 {s:Bs} (P:Nat→List Sp→Prop)
  (h1:∀ k acc,acc≠[]→s[k]?=some 93→P k acc) (h2:∀ k q acc,k≤s.length→¬ (acc≠[]∧s[k]?=some 93)→item s k= .bad q→P k acc)
  (h3:∀ k q acc sp,k≤s.length→¬ (acc≠[]∧s[k]?=some 93)→item s k= .ok sp q→P q (acc++[sp])→P k acc):∀ (n k:Nat) (acc:List Sp),s.length - k<n→k≤s.length→P k acc
 | 0,k,acc,h,hk=>by omega
 | n+1,k,acc,h,hk=>by
   by_cases he:acc≠[]∧s[k]?=some 93
   ·exact h1 k acc he.1 he.2
   ·rcases hi:item s k with q | ⟨sp,q⟩
    ·exact h2 k q acc hk he hi
    ·obtain⟨a,b⟩:=z66 hk hi
     exact h3 k q acc sp hk he hi (y00 P h1 h2 h3 n q _ (by omega) b)
theorem x0d {s:Bs} {k:Nat} (acc:List Sp) (hk:k≤s.length):match goS s k acc with
  | .bad q=>k≤q∧q≤s.length
  | .ok l q=>k<q∧q≤s.length∧l≠[]:=by
 refine y00 (s:=s) (fun k acc=>match goS s k acc with
  | .bad q=>k≤q∧q≤s.length
  | .ok l q=>k<q∧q≤s.length∧l≠[]) ?_ ?_ ?_ (s.length - k+1) k acc (by omega) hk
 ·intro k acc h h1
  have:=z0r h1;rw[z8q h h1];exact⟨by omega,by omega,h⟩
 ·intro k q acc hk he hi
  rw[z2j he hi];exact y9s hk hi
 ·intro k q acc sp hk he hi ih
  obtain⟨a,b⟩:=z66 hk hi;rw[z3u he hk hi]
  rcases hg:goS s q (acc++[sp]) with q' | ⟨l,q'⟩
  ·rw[hg] at ih;exact⟨by omega,ih.2⟩
  ·rw[hg] at ih;exact⟨by omega,ih.2⟩
theorem z85 {s:Bs} {k q:Nat} {acc l:List Sp} (hk:k≤s.length) (h:goS s k acc= .ok l q):k<q∧q≤s.length∧l≠[]:=by
 have:=x0d acc hk;rw[h] at this;exact this
theorem y16 {s:Bs} {k q:Nat} {acc:List Sp} (hk:k≤s.length) (h:goS s k acc= .bad q):k≤q∧q≤s.length:=by
 have:=x0d acc hk;rw[h] at this;exact this
theorem z1a {s r:Bs} {k:Nat} {c:UInt8} (h:s.drop k=c::r):s[k]?=some c:=by
 have:=congrArg (·[0]?) h;simpa[List.getElem?_drop] using this
theorem y2i {sg sg' s r:Bs} {k:Nat} {c:UInt8} (h:s.drop k=esc sg' c++r) (h92:(92:UInt8)∈sg') (hs:∀ x∈sg,x∈sg'):rb sg s k= .ok c (k+(esc sg' c).length):=by
 unfold rb;rw[h];unfold esc;by_cases hc:c∈sg'
 ·rw[if_pos hc];rfl
 ·rw[if_neg hc]
  simp only[List.cons_append,List.nil_append];have h1:c≠92:=by rintro rfl;exact hc h92
  have h2:c ∉ sg:=fun x=>hc (hs c x)
  rw[if_neg h1,if_neg h2];rfl
theorem z04 {s x r:Bs} {k:Nat} (h:s.drop k=x++r):s.drop (k+x.length)=r:=by
 rw[←List.drop_drop,h,List.drop_left]
theorem y10 {s:Bs} {k:Nat} (h:s.drop k=[]):s[k]?=none:=by
 rw[List.drop_eq_nil_iff] at h;exact List.getElem?_eq_none h
theorem y1l {s r:Bs} {k:Nat} {c:UInt8} (h:s.drop k=r) (hr:r.head?≠some c):s[k]?≠some c:=by
 cases r with
 | nil=>rw[y10 h];simp
 | cons d r=>rw[z1a h];simpa using hr
theorem u8_eq {a b:UInt8} (h:(a.toNat:Int)=(b.toNat:Int)):a=b:=UInt8.toNat_inj.1 (by omega)
abbrev S4:=UInt64 × UInt64 × UInt64 × UInt64
def wd (S:S4) (q:Nat):UInt64:=if q=0 then S.1 else if q=1 then S.2.1 else if q=2 then S.2.2.1 else S.2.2.2
def setw (S:S4) (q:Nat) (x:UInt64):S4:=if q=0 then (x,S.2) else if q=1 then (S.1,x,S.2.2) else if q=2 then (S.1,S.2.1,x,S.2.2.2) else (S.1,S.2.1,S.2.2.1,x)
def mem (S:S4) (c:Nat):Bool:=(wd S (c / 64)).toNat.testBit (c % 64)
def none4:S4:=(0,0,0,0)
def ins (S:S4) (c:Nat):S4:=setw S (c / 64) (UInt64.ofNat ((wd S (c / 64)).toNat ||| 2 ^ (c % 64)))
def compl (S:S4):S4:=(~~~S.1, ~~~S.2.1, ~~~S.2.2.1, ~~~S.2.2.2)
theorem y1q (S:S4) (q q':Nat) (x:UInt64) (h:q<4) (h':q'<4):wd (setw S q x) q'=if q'=q then x else wd S q':=by
 have hq:q=0∨q=1∨q=2∨q=3:=by omega
 have hq':q'=0∨q'=1∨q'=2∨q'=3:=by omega
 rcases hq with rfl | rfl | rfl | rfl <;> rcases hq' with rfl | rfl | rfl | rfl <;> rfl
theorem or_lt (S:S4) (c:Nat):(wd S (c / 64)).toNat ||| 2 ^ (c % 64)<2 ^ 64:=by
 apply Nat.or_lt_two_pow
 ·exact(wd S (c / 64)).toNat_lt
 ·exact Nat.pow_lt_pow_right (by omega) (by omega)
theorem y2h (S:S4) (c:Nat):(UInt64.ofNat ((wd S (c / 64)).toNat ||| 2 ^ (c % 64))).toNat=(wd S (c / 64)).toNat ||| 2 ^ (c % 64):=by
 rw[UInt64.toNat_ofNat',Nat.mod_eq_of_lt (or_lt S c)]
theorem y45 (S:S4) (c x:Nat) (hc:c<256) (hx:x<256):mem (ins S c) x=(mem S x || decide (x=c)):=by
 unfold mem ins;rw[y1q _ _ _ _ (by omega) (by omega)];by_cases h:x / 64=c / 64
 ·rw[if_pos h,y2h,Nat.testBit_or,Nat.testBit_two_pow,h]
  congr 1
  rw[decide_eq_decide]
  constructor
  ·intro h2;omega
  ·intro h2;rw[h2]
 ·rw[if_neg h]
  have:x≠c:=by rintro rfl;exact h rfl
  simp[this]
theorem z48 (x:Nat):mem none4 x=false:=by
 unfold mem wd none4
 split
 ·simp
 ·split
  ·simp
  ·split <;> simp
theorem y79 (S:S4) (q:Nat):wd (compl S) q= ~~~ (wd S q):=by
 unfold wd compl
 split
 ·rfl
 ·split
  ·rfl
  ·split <;> rfl
theorem x2d (x:UInt64):(~~~ x).toNat=2 ^ 64 - (x.toNat+1):=by
 rw[UInt64.toNat_not];simp[UInt64.size]
theorem z29 (S:S4) (x:Nat):mem (compl S) x= !mem S x:=by
 unfold mem;rw[y79,x2d,Nat.testBit_two_pow_sub_succ (wd S (x / 64)).toNat_lt];have:x % 64<64:=Nat.mod_lt _ (by omega);simp[this]
theorem x3t {S T:S4} (h:∀ q,q<4→wd S q=wd T q):S=T:=by
 have h0:=h 0 (by omega);have h1:=h 1 (by omega);have h2:=h 2 (by omega);have h3:=h 3 (by omega);simp[wd] at h0 h1 h2 h3;exact Prod.ext h0 (Prod.ext h1 (Prod.ext h2 h3))
theorem z6t {S T:S4} (h:∀ c,c<256→mem S c=mem T c):S=T:=by
 refine x3t fun q hq=>UInt64.toNat_inj.1 (Nat.eq_of_testBit_eq fun i=>?_)
 by_cases hi:i<64
 ·have:=h (64 * q+i) (by omega)
  unfold mem at this;rw[show (64 * q+i) / 64=q by omega,show (64 * q+i) % 64=i by omega] at this;exact this
 ·rw[Nat.testBit_lt_two_pow,Nat.testBit_lt_two_pow]
  ·exact Nat.lt_of_lt_of_le (wd T q).toNat_lt (Nat.pow_le_pow_right (by omega) (by omega))
  ·exact Nat.lt_of_lt_of_le (wd S q).toNat_lt (Nat.pow_le_pow_right (by omega) (by omega))
def spanS (S:S4) (lo:Nat):Nat→S4
 | 0=>S
 | n+1=>ins (spanS S lo n) (lo+n)
theorem y0f (S:S4) (lo x:Nat) (hx:x<256):∀ n,lo+n≤256→mem (spanS S lo n) x=(mem S x || (decide (lo≤x) && decide (x<lo+n)))
 | 0,_=>by
   have:(decide (lo≤x) && decide (x<lo+0))=false:=by rw[Bool.and_eq_false_iff,decide_eq_false_iff_not,decide_eq_false_iff_not];omega
   rw[this,spanS,Bool.or_false]
 | n+1,h=>by
   rw[spanS,y45 _ _ _ (by omega) hx,y0f S lo x hx n (by omega),Bool.or_assoc]
   congr 1
   rw[Bool.eq_iff_iff];simp;omega
def hasS (c:Nat) (p:Sp):Bool:=decide (p.1.toNat≤c) && decide (c≤p.2.toNat)
def addS (S:S4) (p:Sp):S4:=spanS S p.1.toNat (p.2.toNat+1 - p.1.toNat)
theorem y7y (S:S4) (p:Sp) (x:Nat) (hx:x<256):mem (addS S p) x=(mem S x || hasS x p):=by
 have:=p.2.toNat_lt;have:=p.1.toNat_lt;unfold addS hasS;rw[y0f _ _ _ hx _ (by omega)]
 congr 1
 rw[Bool.eq_iff_iff];simp;omega
def allS (l:List Sp):S4:=l.foldl addS none4
theorem y0i (x:Nat) (hx:x<256):∀ (l:List Sp) (S:S4),mem (l.foldl addS S) x=(mem S x || l.any (hasS x))
 | [],S=>by simp
 | p::l,S=>by rw[List.foldl_cons,y0i x hx l,y7y _ _ _ hx,List.any_cons,Bool.or_assoc]
theorem z4y (l:List Sp) (x:Nat) (hx:x<256):mem (allS l) x=l.any (hasS x):=by
 unfold allS;rw[y0i x hx,z48,Bool.false_or]
def ofN (l:List Sp) (no:Bool):Nat→S4
 | 0=>none4
 | n+1=>if l.any (hasS n) != no then ins (ofN l no n) n else ofN l no n
theorem y6z (l:List Sp) (no:Bool) (x:Nat) (hx:x<256):∀ n,n≤256→mem (ofN l no n) x=(decide (x<n) && (l.any (hasS x) != no))
 | 0,_=>by rw[ofN,z48];simp
 | n+1,h=>by
   have ih:=y6z l no x hx n (by omega);rw[ofN];by_cases hc:(l.any (hasS n) != no)=true
   ·rw[if_pos hc,y45 _ _ _ (by omega) hx,ih]
    by_cases hxn:x=n
    ·subst hxn;rw[hc];simp
    ·have e:decide (x<n+1)=decide (x<n):=by rw[decide_eq_decide];omega
     rw[e];simp[hxn]
   ·rw[if_neg hc,ih]
    by_cases hxn:x=n
    ·subst hxn
     have hc:=Bool.eq_false_iff.2 hc;rw[hc];simp
    ·have e:decide (x<n+1)=decide (x<n):=by rw[decide_eq_decide];omega
     rw[e]
def ofS (l:List Sp) (no:Bool):S4:=ofN l no 256
theorem y41 (l:List Sp) (no:Bool) (x:Nat) (hx:x<256):mem (ofS l no) x=(l.any (hasS x) != no):=by
 unfold ofS;rw[y6z l no x hx 256 (by omega)];simp[hx]
theorem x4g (l:List Sp):ofS l false=allS l:=z6t fun c hc=>by rw[y41 l false c hc,z4y l c hc];simp
theorem y4g (l:List Sp):ofS l true=compl (allS l):=z6t fun c hc=>by rw[y41 l true c hc,z29,z4y l c hc];simp
def nxt (S:S4) (c:Nat):Nat:=if c<256∧mem S c=false then nxt S (c+1) else c
termination_by 256 - c
decreasing_by omega
theorem x0j {S:S4} {c:Nat} (h:c<256) (hm:mem S c=false):nxt S c=nxt S (c+1):=by rw[nxt,if_pos ⟨h,hm⟩]
theorem x0t {S:S4} {c:Nat} (hm:mem S c=true):nxt S c=c:=by rw[nxt,if_neg (by simp[hm])]
theorem y46 {S:S4} {c:Nat} (h:¬ c<256):nxt S c=c:=by rw[nxt,if_neg (by omega)]
theorem y61 (S:S4):∀ (n c:Nat),256 - c<n→c≤256→c≤nxt S c∧nxt S c≤256∧(nxt S c<256→mem S (nxt S c)=true)∧∀ x,c≤x→x<nxt S c→mem S x=false
 | 0,c,h,_=>by omega
 | n+1,c,h,hc=>by
   by_cases hlt:c<256
   ·cases hm:mem S c with
    | true=>rw[x0t hm];exact⟨Nat.le_refl _,hc,fun _=>hm,fun x h1 h2=>by omega⟩
    | false=>
      obtain⟨a,b,d,e⟩:=y61 S n (c+1) (by omega) (by omega);rw[x0j hlt hm];refine⟨by omega,b,d,fun x h1 h2=>?_⟩;by_cases hx:x=c
      ·subst hx;exact hm
      ·exact e x (by omega) h2
   ·rw[y46 hlt];exact⟨Nat.le_refl _,hc,fun h=>by omega,fun x h1 h2=>by omega⟩
theorem y23 (S:S4) (c:Nat) (hc:c≤256):c≤nxt S c∧nxt S c≤256∧(nxt S c<256→mem S (nxt S c)=true)∧∀ x,c≤x→x<nxt S c→mem S x=false:=y61 S (256 - c+1) c (by omega) hc
def addC (l:List Sp) (c:Nat):List Sp:=
 match l.getLast? with
 | some p=>if p.2.toNat+1=c then l.dropLast++[(p.1,UInt8.ofNat c)] else l++[(UInt8.ofNat c,UInt8.ofNat c)]
 | none=>l++[(UInt8.ofNat c,UInt8.ofNat c)]
theorem z3k (c:Nat):addC [] c=[(UInt8.ofNat c,UInt8.ofNat c)]:=rfl
theorem z3c {l:List Sp} {p:Sp} {c:Nat} (h:p.2.toNat+1=c):addC (l++[p]) c=l++[(p.1,UInt8.ofNat c)]:=by
 unfold addC;rw[List.getLast?_append];simp[h]
theorem z4k {l:List Sp} {p:Sp} {c:Nat} (h:p.2.toNat+1≠c):addC (l++[p]) c=l++[p]++[(UInt8.ofNat c,UInt8.ofNat c)]:=by
 unfold addC;rw[List.getLast?_append];simp[h]
def runsTo (S:S4):Nat→List Sp
 | 0=>[]
 | n+1=>if mem S n then addC (runsTo S n) n else runsTo S n
theorem z1g {α:Type} (l:List α):l=[]∨∃ r p,l=r++[p]:=by
 rcases List.eq_nil_or_concat l with h | ⟨r,p,h⟩
 ·exact .inl h
 ·exact .inr ⟨r,p,by rw[h,List.concat_eq_append]⟩
theorem z3s {c:Nat} (h:c<256):(UInt8.ofNat c).toNat=c:=by rw[UInt8.toNat_ofNat',Nat.mod_eq_of_lt h]
theorem z2f (S:S4):∀ n,n≤256→∀ l p,runsTo S n=l++[p]→p.2.toNat<n∧mem S p.2.toNat=true∧p.1.toNat≤p.2.toNat
 | 0,_,l,p,h=>by simp[runsTo] at h
 | n+1,hn,l,p,h=>by
   rw[runsTo] at h
   split at h
   ·rename_i hm
    rcases z1g (runsTo S n) with h0 | ⟨r,q,hr⟩
    ·rw[h0,z3k] at h
     have h:([]:List Sp)++[(UInt8.ofNat n,UInt8.ofNat n)]=l++[p]:=h;obtain⟨_,h⟩:=List.append_inj' h rfl;injection h with h _
     subst h;dsimp only;rw[z3s (by omega)];exact⟨by omega,hm,Nat.le_refl _⟩
    ·obtain⟨q1,_,q3⟩:=z2f S n (by omega) r q hr
     by_cases hq:q.2.toNat+1=n
     ·rw[hr,z3c hq] at h
      obtain⟨_,h⟩:=List.append_inj' h rfl;injection h with h _
      subst h;dsimp only;rw[z3s (by omega)];exact⟨by omega,hm,by omega⟩
     ·rw[hr,z4k hq] at h
      obtain⟨_,h⟩:=List.append_inj' h rfl;injection h with h _
      subst h;dsimp only;rw[z3s (by omega)];exact⟨by omega,hm,Nat.le_refl _⟩
   ·obtain⟨q1,q2⟩:=z2f S n (by omega) l p h
    exact⟨by omega,q2⟩
theorem z8u (S:S4) (b:Nat):∀ n,(∀ x,b≤x→x<b+n→mem S x=false)→runsTo S (b+n)=runsTo S b
 | 0,_=>rfl
 | n+1,h=>by
   rw[show b+(n+1)=b+n+1 by omega,runsTo,if_neg (by rw[h _ (by omega) (by omega)];simp)];exact z8u S b n fun x h1 h2=>h x h1 (by omega)
theorem z8l (S:S4) (lo:Nat) (h0:lo=0∨mem S (lo - 1)=false):∀ n,lo+n<256→(∀ x,lo≤x→x≤lo+n→mem S x=true)→runsTo S (lo+n+1)=runsTo S lo++[(UInt8.ofNat lo,UInt8.ofNat (lo+n))]
 | 0,hn,h=>by
   rw[Nat.add_zero,runsTo,if_pos (h lo (by omega) (by omega))]
   rcases z1g (runsTo S lo) with h1 | ⟨r,q,hr⟩
   ·rw[h1,z3k];rfl
   ·obtain⟨q1,q2,_⟩:=z2f S lo (by omega) r q hr
    have hq:q.2.toNat+1≠lo:=by
     intro hq
     rcases h0 with h0 | h0
     ·omega
     ·rw[show lo - 1=q.2.toNat by omega,q2] at h0;cases h0
    rw[hr,z4k hq];rfl
 | n+1,hn,h=>by
   rw[show lo+(n+1)+1=(lo+n+1)+1 by omega,runsTo,if_pos (h _ (by omega) (by omega)),z8l S lo h0 n (by omega) (fun x h1 h2=>h x h1 (by omega))];rw[z3c (by dsimp only;rw[z3s (by omega)])]
   rfl
theorem z8b (S:S4) (x:Nat) (hx:x<256):∀ n,n≤256→(runsTo S n).any (hasS x)=(decide (x<n) && mem S x)
 | 0,_=>by simp[runsTo]
 | n+1,hn=>by
   have ih:=z8b S x hx n (by omega);rw[runsTo]
   split
   ·rename_i hm
    have hone:hasS x (UInt8.ofNat n,UInt8.ofNat n)=decide (x=n):=by
     unfold hasS;dsimp only;rw[z3s (by omega),Bool.eq_iff_iff];simp;omega
    have key:∀ b:Bool,b=(decide (x<n) && mem S x)→(b || decide (x=n))=(decide (x<n+1) && mem S x):=by
     rintro b rfl;by_cases hxn:x=n
     ·subst hxn;rw[hm];simp
     ·have e:decide (x<n+1)=decide (x<n):=by rw[decide_eq_decide];omega
      rw[e];simp[hxn]
    rcases z1g (runsTo S n) with h0 | ⟨r,q,hr⟩
    ·rw[h0] at ih ⊢
     rw[z3k];rw[←key _ ih];simp[hone]
    ·obtain⟨q1,q2,q3⟩:=z2f S n (by omega) r q hr
     rw[hr] at ih ⊢;by_cases hq:q.2.toNat+1=n
     ·rw[z3c hq,←key _ ih]
      have:hasS x (q.1,UInt8.ofNat n)=(hasS x q || decide (x=n)):=by
       unfold hasS;dsimp only;rw[z3s (by omega),Bool.eq_iff_iff];simp;omega
      simp[this,Bool.or_assoc]
     ·rw[z4k hq,←key _ ih]
      simp only[List.any_append,List.any_cons,List.any_nil,Bool.or_false,hone]
   ·rename_i hm
    rw[ih];by_cases hxn:x=n
    ·subst hxn;simp[Bool.eq_false_iff.2 hm]
    ·have e:decide (x<n+1)=decide (x<n):=by rw[decide_eq_decide];omega
     rw[e]
theorem z54 (S:S4):∀ n,(runsTo S n).length≤n
 | 0=>by simp[runsTo]
 | n+1=>by
   have ih:=z54 S n;rw[runsTo]
   split
   ·rcases z1g (runsTo S n) with h0 | ⟨r,q,hr⟩
    ·rw[h0,z3k];simp
    ·rw[hr] at ih ⊢
     by_cases hq:q.2.toNat+1=n
     ·rw[z3c hq];simp at ih ⊢;omega
     ·rw[z4k hq];simp at ih ⊢;omega
   ·omega
theorem z8k (S:S4):∀ n,n≤256→(runsTo S n).all okS=true
 | 0,_=>by simp[runsTo]
 | n+1,hn=>by
   have ih:=z8k S n (by omega);rw[runsTo]
   split
   ·have hone:okS (UInt8.ofNat n,UInt8.ofNat n)=true:=by unfold okS;simp
    rcases z1g (runsTo S n) with h0 | ⟨r,q,hr⟩
    ·rw[h0,z3k];simp[hone]
    ·obtain⟨q1,q2,q3⟩:=z2f S n (by omega) r q hr
     rw[hr] at ih ⊢;by_cases hq:q.2.toNat+1=n
     ·rw[z3c hq]
      have:okS (q.1,UInt8.ofNat n)=true:=by unfold okS;dsimp only;rw[z3s (by omega),decide_eq_true_eq];omega
      rw[List.all_append,Bool.and_eq_true] at ih ⊢;exact⟨ih.1,by simp[this]⟩
     ·rw[z4k hq,List.all_append,Bool.and_eq_true]
      exact⟨ih,by simp[hone]⟩
   ·exact ih
def runs (S:S4):List Sp:=runsTo S 256
theorem y7e (S:S4):allS (runs S)=S:=z6t fun c hc=>by
 rw[z4y _ _ hc];unfold runs;rw[z8b S c hc 256 (by omega)];simp[hc]
def cnt (f:Nat→Bool):Nat→Nat
 | 0=>0
 | n+1=>cnt f n+if f n then 1 else 0
def sumL (l:List Sp):Nat:=(l.map fun p=>p.2.toNat+1 - p.1.toNat).sum
theorem z2w (l:List Sp) (p:Sp):sumL (l++[p])=sumL l+(p.2.toNat+1 - p.1.toNat):=by unfold sumL;simp
theorem z38 (S:S4):∀ n,n≤256→sumL (runsTo S n)=cnt (mem S) n
 | 0,_=>rfl
 | n+1,hn=>by
   have ih:=z38 S n (by omega);rw[runsTo,cnt]
   split
   ·have hone:(UInt8.ofNat n).toNat=n:=z3s (by omega)
    rcases z1g (runsTo S n) with h0 | ⟨r,q,hr⟩
    ·rw[h0] at ih ⊢
     rw[z3k,←ih];simp[sumL]
    ·obtain⟨q1,q2,q3⟩:=z2f S n (by omega) r q hr
     rw[hr,z2w] at ih;rw[hr];by_cases hq:q.2.toNat+1=n
     ·rw[z3c hq,z2w];dsimp only;rw[hone];omega
     ·rw[z4k hq,z2w,z2w];dsimp only;rw[hone];omega
   ·rw[ih];rfl
theorem z9j (f:Nat→Bool):∀ n,cnt f n≤n
 | 0=>Nat.le_refl _
 | n+1=>by have:=z9j f n;rw[cnt];split <;> omega
theorem y4f (f:Nat→Bool):∀ n,cnt f n=n→∀ x,x<n→f x=true
 | 0,_,x,h=>by omega
 | n+1,h,x,hx=>by
   have hl:=z9j f n;rw[cnt] at h
   split at h
   ·rename_i hf
    by_cases e:x=n
    ·subst e;exact hf
    ·exact y4f f n (by omega) x (by omega)
   ·omega
theorem y7i {S:S4} (h:cnt (mem S) 256=0):runs S=[]:=by
 rw[←z38 S 256 (by omega)] at h;unfold runs
 rcases z1g (runsTo S 256) with h0 | ⟨r,q,hr⟩
 ·exact h0
 ·obtain⟨q1,q2,q3⟩:=z2f S 256 (by omega) r q hr
  rw[hr,z2w] at h;omega
theorem z81 {S:S4} (h:cnt (mem S) 256=1):∃ c,runs S=[(c,c)]∧nxt S 0=c.toNat:=by
 rw[←z38 S 256 (by omega)] at h;have hall:=z8k S 256 (by omega);have hany:=fun x hx=>z8b S x hx 256 (by omega)
 unfold runs
 rcases z1g (runsTo S 256) with h0 | ⟨r,q,hr⟩
 ·rw[h0] at h;simp[sumL] at h
 ·obtain⟨q1,q2,q3⟩:=z2f S 256 (by omega) r q hr
  rw[hr] at hall hany ⊢;rw[hr,z2w] at h
  have hr0:r=[]:=by
   rcases z1g r with h1 | ⟨r',q',h1⟩
   ·exact h1
   ·have:okS q'=true:=by rw[List.all_eq_true] at hall;exact hall q' (by rw[h1];simp)
    unfold okS at this;rw[decide_eq_true_eq] at this;rw[h1,z2w] at h;omega
  subst hr0;have hq:q.1=q.2:=UInt8.toNat_inj.1 (by omega);refine⟨q.1,by rw[List.nil_append,show q=(q.1,q.1) from Prod.ext rfl hq.symm],?_⟩;obtain⟨a,b,c,d⟩:=y23 S 0 (by omega)
  have hlt:nxt S 0≤q.2.toNat:=by
   by_cases hh:q.2.toNat<nxt S 0
   ·have:=d q.2.toNat (by omega) hh
    rw[this] at q2;cases q2
   ·omega
  have hm:=c (by omega);have:=hany (nxt S 0) (by omega);rw[hm,Bool.and_true,decide_eq_true (show nxt S 0<256 by omega),List.nil_append,List.any_cons,List.any_nil,Bool.or_false] at this;unfold hasS at this;rw[Bool.and_eq_true,decide_eq_true_eq,decide_eq_true_eq] at this;omega
theorem y4k {S:S4} (h:cnt (mem S) 256=256):runs S=[(0,255)]:=by
 have:=z8l S 0 (.inl rfl) 255 (by omega) (fun x _ hx=>y4f _ _ h x (by omega));exact this
def sgA:Bs:=[92,124,40,41,42,43,63,123,46,91,94,36]
def sgJ:Bs:=[93,45,92,94]
def itemJ (p:Sp):Bs:=esc sgJ p.1++if (p.1.toNat:Int)<(p.2.toNat:Int) then 45::esc sgJ p.2 else []
def setText (S:S4):Bs:=
 if cnt (mem S) 256=0 then [91,94,0,45,255,93] else if cnt (mem S) 256=1 then esc sgA (UInt8.ofNat (nxt S 0)) else if cnt (mem S) 256=256 then [46]
 else 91::((runs S).flatMap itemJ++[93])
theorem z6r {S:S4} (h:runs S=[]):setText S=[91,94,0,45,255,93]:=by
 unfold setText;rw[if_pos];rw[←z38 S 256 (by omega)];unfold runs at h;rw[h];rfl
theorem z6q {S:S4} {c:UInt8} (h:runs S=[(c,c)]):setText S=esc sgA c:=by
 have h1:cnt (mem S) 256=1:=by rw[←z38 S 256 (by omega)];unfold runs at h;rw[h];simp[sumL]
 obtain⟨d,h2,h3⟩:=z81 h1;rw[h] at h2;injection h2 with h2 _
 injection h2 with h2 _
 unfold setText;rw[if_neg (by omega),if_pos h1,h3,←h2];simp
theorem z5t {S:S4} (h:runs S=[(0,255)]):setText S=[46]:=by
 have h1:cnt (mem S) 256=256:=by rw[←z38 S 256 (by omega)];unfold runs at h;rw[h];rfl
 unfold setText;rw[if_neg (by omega),if_neg (by omega),if_pos h1]
theorem z32 {S:S4} (h0:runs S≠[]) (h1:∀ c,runs S≠[(c,c)]) (h2:runs S≠[(0,255)]):setText S=91::((runs S).flatMap itemJ++[93]):=by
 unfold setText;rw[if_neg (fun h=>h0 (y7i h)),if_neg (fun h=>by obtain⟨c,hc,_⟩:=z81 h;exact h1 c hc),if_neg (fun h=>h2 (y4k h))]
inductive Re where
 | mk (kind:Int) (set:S4) (kids:List Re) (lo hi n:Int):Re
theorem Re.ind {P:Re→Prop} (h:∀ k S ks lo hi n,(∀ r∈ks,P r)→P (.mk k S ks lo hi n)):∀ r,P r:=by
 intro r;refine Re.rec (motive_1:=P) (motive_2:=fun l=>∀ r∈l,P r) ?_ ?_ ?_ r
 ·intro k S ks lo hi n ih;exact h k S ks lo hi n ih
 ·intro r hr;cases hr
 ·intro a l ha hl r hr
  rcases List.mem_cons.1 hr with rfl | hr
  ·exact ha
  ·exact hl r hr
def Re.kind:Re→Int | .mk k _ _ _ _ _=>k
def Re.kids:Re→List Re | .mk _ _ ks _ _ _=>ks
def rSet (S:S4):Re:= .mk 1 S [] 0 0 0
def rBegin:Re:= .mk 2 none4 [] 0 0 0
def rEnd:Re:= .mk 3 none4 [] 0 0 0
def rRep (r:Re) (lo hi:Int):Re:= .mk 6 none4 [r] lo hi 0
def rGrp (r:Re) (n:Int):Re:= .mk 7 none4 [r] 0 0 n
def mkRow (l:List Re):Re:=match l with
 | []=> .mk 0 none4 [] 0 0 0
 | [r]=>r
 | l=> .mk 4 none4 l 0 0 0
def mkAlt (l:List Re):Re:=match l with
 | [r]=>r
 | l=> .mk 5 none4 l 0 0 0
def rep (r:Re):Bool:=r.kind != 2 && r.kind != 3
def num (g:Nat):Int:=if g > 9 then 0 else g
mutual
def groups:Re→Nat
 | .mk k _ ks _ _ _=>(if k=7 then 1 else 0)+groupsL ks
def groupsL:List Re→Nat
 | []=>0
 | r::rs=>groups r+groupsL rs
end
mutual
def sizeE:Re→Nat
 | .mk _ _ ks _ _ _=>1+sizeL ks
def sizeL:List Re→Nat
 | []=>0
 | r::rs=>sizeE r+sizeL rs
end
def dig (x:Int):UInt8:=UInt8.ofNat (48+x.toNat)
def signT (lo hi:Int):Bs:=
 if lo=0∧hi= -1 then [42] else if lo=1∧hi= -1 then [43] else if lo=0∧hi=1 then [63]
 else if hi=lo then [123,dig lo,125] else if hi= -1 then [123,dig lo,44,125] else [123,dig lo,44,dig hi,125]
mutual
def textE:Re→Bs
 | .mk k S ks lo hi _=>if k=1 then setText S else if k=2 then [94] else if k=3 then [36]
   else if k=7 then 40::(joinT [] ks++[41]) else if k=6 then joinT [] ks++signT lo hi else joinT (if k=5 then [124] else []) ks
def joinT (sep:Bs):List Re→Bs
 | []=>[]
 | r::rs=>textE r++tailT sep rs
def tailT (sep:Bs):List Re→Bs
 | []=>[]
 | r::rs=>sep++(textE r++tailT sep rs)
end
theorem z7o (sep:Bs) (r:Re):∀ l,tailT sep (l++[r])=tailT sep l++(sep++textE r)
 | []=>by simp[tailT]
 | x::l=>by rw[List.cons_append,tailT,z7o sep r l,tailT];simp
theorem y3s (sep:Bs) (r:Re) (l:List Re):joinT sep (l++[r])=if l=[] then textE r else joinT sep l++(sep++textE r):=by
 cases l with
 | nil=>simp[joinT,tailT]
 | cons x l=>rw[List.cons_append,joinT,z7o,joinT];simp
def lev (k:Int):Nat:=if k=1∨k=2∨k=3∨k=7 then 0 else if k=6 then 1 else if k=0∨k=4 then 2 else if k=5 then 3 else 4
def levK (k:Int):Nat:=if k=4 then 1 else if k=5 then 2 else if k=7 then 3 else 0
def bound (lo hi:Int):Bool:=decide (0≤lo) && (decide (lo≤8) && (decide (hi= -1) || (decide (lo≤hi) && decide (hi≤8))))
def told:Re→Bool
 | .mk k S ks lo hi n=>
   (decide (k=1) || decide (S=none4)) && ((decide (k=7) || decide (n=0)) &&
   (if k=6 then (match ks with | [r]=>rep r | _=>false) && bound lo hi
   else decide (lo=0) && (decide (hi=0) && (if k=7 then decide (ks.length=1) else if k=4∨k=5 then decide (2≤ks.length) else decide (ks.length=0)))))
mutual
def form:Re→Nat→Nat→Nat→Option Nat
 | .mk k S ks lo hi n,lv,d,g=>
   if lev k≤lv∧told (.mk k S ks lo hi n)=true then
    (if k=7 then (if n=num (g+1)∧d<64 then formL ks 3 (d+1) (g+1) else none) else formL ks (levK k) d g)
   else none
def formL:List Re→Nat→Nat→Nat→Option Nat
 | [],_,_,g=>some g
 | r::rs,lv,d,g=>match form r lv d g with
   | none=>none
   | some g'=>formL rs lv d g'
end
inductive Ro (α:Type) where
 | bad (q:Nat) (e:Int) | ok (a:α) (q g:Nat)
def numb (s:Bs) (k:Nat) (least:Int):Option Int:=match s[k]? with
 | none=>none
 | some c=>if (c.toNat:Int) - 48<least∨8<(c.toNat:Int) - 48 then none else some ((c.toNat:Int) - 48)
def closeB (s:Bs) (k:Nat) (lo hi:Int):Res (Int × Int):=if s[k]?=some 125 then .ok (lo,hi) (k+1) else .bad k
def bnds (s:Bs) (k:Nat):Res (Int × Int):=match numb s k 0 with
 | none=> .bad k
 | some lo=>if s[k+1]?=some 44 then (if s[k+2]?=some 125 then .ok (lo, -1) (k+3) else match numb s (k+2) lo with
   | none=> .bad (k+2)
   | some hi=>closeB s (k+3) lo hi)
   else closeB s (k+1) lo lo
def cls (s:Bs) (k:Nat):Res S4:=
 if s[k]?=some 94 then (match goS s (k+1) [] with
  | .bad q=> .bad q
  | .ok l q=> .ok (compl (allS l)) q)
 else match goS s k [] with
  | .bad q=> .bad q
  | .ok l q=> .ok (allS l) q
abbrev Rd:=Nat→Nat→Ro Re
def atomR (grp:Rd) (s:Bs) (k g:Nat):Ro Re:=
 if s[k]?=some 94 then .ok rBegin (k+1) g else if s[k]?=some 36 then .ok rEnd (k+1) g else if s[k]?=some 46 then .ok (rSet (compl none4)) (k+1) g
 else if s[k]?=some 40 then grp k g
 else if s[k]?=some 91 then (match cls s (k+1) with
  | .bad q=> .bad q 1
  | .ok S q=> .ok (rSet S) q g)
 else match rb sgA s k with
  | .bad q=> .bad q 1
  | .ok c q=> .ok (rSet (ins none4 c.toNat)) q g
def tailP (s:Bs) (x:Re) (q g:Nat):Ro Re:=
 if s[q]?=some 42 then .ok (rRep x 0 (-1)) (q+1) g else if s[q]?=some 43 then .ok (rRep x 1 (-1)) (q+1) g else if s[q]?=some 63 then .ok (rRep x 0 1) (q+1) g
 else if s[q]?=some 123 then (match bnds s (q+1) with
  | .bad p=> .bad p 1
  | .ok b p=> .ok (rRep x b.1 b.2) p g)
 else .ok x q g
def sgR:Bs:=[42,43,63,123]
def signAt (s:Bs) (q:Nat):Prop:=∃ c,s[q]?=some c∧c∈sgR
def pieceC (grp:Rd) (s:Bs) (k g:Nat):Ro Re:=match atomR grp s k g with
 | .bad q e=> .bad q e
 | .ok x q g'=>if rep x=true then tailP s x q g' else .ok x q g'
noncomputable def pieceR (grp:Rd) (s:Bs) (k g:Nat):Ro Re:=match atomR grp s k g with
 | .bad q e=> .bad q e
 | .ok x q g'=>if rep x=true then tailP s x q g' else @ite _ (signAt s q) (Classical.propDecidable _) (.bad q 1) (.ok x q g')
def stops (s:Bs) (k:Nat):Bool:=match s[k]? with
 | none=>true
 | some c=>decide (c=124) || decide (c=41)
def rowL (pc:Rd) (s:Bs) (k g:Nat) (acc:List Re):Ro (List Re):=
 if stops s k=true then .ok acc k g else match pc k g with
  | .bad q e=> .bad q e
  | .ok x q g'=>if k<q∧q≤s.length then rowL pc s q g' (acc++[x]) else .bad q 0
termination_by s.length - k
decreasing_by omega
def rowOf (pc:Rd) (s:Bs) (k g:Nat):Ro Re:=match rowL pc s k g [] with
 | .bad q e=> .bad q e
 | .ok l q g'=> .ok (mkRow l) q g'
def altL (rw_:Rd) (s:Bs) (k g:Nat) (acc:List Re):Ro (List Re):=match rw_ k g with
 | .bad q e=> .bad q e
 | .ok x q g'=>if s[q]?=some 124 then (if k≤q∧q<s.length then altL rw_ s (q+1) g' (acc++[x]) else .bad q 0) else .ok (acc++[x]) q g'
termination_by s.length - k
decreasing_by omega
def altOf (rw_:Rd) (s:Bs) (k g:Nat):Ro Re:=match altL rw_ s k g [] with
 | .bad q e=> .bad q e
 | .ok l q g'=> .ok (mkAlt l) q g'
def grpR (ex:Rd) (s:Bs) (k g:Nat):Ro Re:=match ex (k+1) (g+1) with
 | .bad q e=> .bad q e
 | .ok x q g'=>if s[q]?=some 41 then .ok (rGrp x (num (g+1))) (q+1) g' else .bad q 1
def grpM (pc:Rd→Rd) (s:Bs):Nat→Rd
 | 0=>fun k _=> .bad k 8
 | m+1=>grpR (altOf (rowOf (pc (grpM pc s m)) s) s) s
def exM (pc:Rd→Rd) (s:Bs) (m:Nat):Rd:=altOf (rowOf (pc (grpM pc s m)) s) s
theorem z2y (pc:Rd→Rd) (s:Bs) (m:Nat):grpM pc s (m+1)=grpR (exM pc s m) s:=rfl
def exC (s:Bs) (m:Nat):Rd:=exM (fun grp=>pieceC grp s) s m
noncomputable def exR (s:Bs) (m:Nat):Rd:=exM (fun grp=>pieceR grp s) s m
def parseE (s:Bs):Option Re × Nat × Int:=
 if 200<s.length then (none,200,2) else match exC s 64 0 0 with
  | .bad q e=>(none,q,e)
  | .ok x q _=>if q<s.length then (none,q,1) else (some x,0,0)
def Good (s:Bs) (rd:Rd):Prop:=∀ k g,k<s.length→(∀ q e,rd k g= .bad q e→k≤q∧q≤s.length∧(e=1∨e=8∧q<s.length))∧∀ x q g',rd k g= .ok x q g'→k<q∧q≤s.length
def GoodE (s:Bs) (rd:Rd):Prop:=∀ k g,k≤s.length→(∀ q e,rd k g= .bad q e→k≤q∧q≤s.length∧(e=1∨e=8∧q<s.length))∧∀ x q g',rd k g= .ok x q g'→k≤q∧q≤s.length
theorem z5m {s:Bs} {k:Nat} {l x:Int} (h:numb s k l=some x):k<s.length∧l≤x∧x≤8∧∃ c,s[k]?=some c∧x=(c.toNat:Int) - 48:=by
 unfold numb at h
 split at h
 ·cases h
 ·rename_i c hc
  split at h
  ·cases h
  ·injection h with h
   exact⟨z0r hc,by omega,by omega,c,hc,h.symm⟩
theorem z9y {s:Bs} {k:Nat} (lo hi:Int):match closeB s k lo hi with
  | .bad q=>q=k
  | .ok _ q=>q=k+1∧q≤s.length:=by
 unfold closeB
 split
 ·rename_i q heq
  split at heq
  ·cases heq
  ·injection heq with heq;exact heq.symm
 ·rename_i a q heq
  split at heq
  ·rename_i h1
   injection heq with _ heq
   have:=z0r h1;exact⟨heq.symm,by omega⟩
  ·cases heq
theorem z8n {s:Bs} {k:Nat} (h:k≤s.length):match bnds s k with
  | .bad q=>k≤q∧q≤s.length
  | .ok _ q=>k<q∧q≤s.length:=by
 unfold bnds
 rcases h1:numb s k 0 with _ | lo
 ·exact⟨Nat.le_refl _,h⟩
 ·have hk:=(z5m h1).1
  dsimp only;by_cases h2:s[k+1]?=some 44
  ·rw[if_pos h2]
   have hk2:=z0r h2;by_cases h3:s[k+2]?=some 125
   ·rw[if_pos h3];have:=z0r h3;exact⟨by omega,by omega⟩
   ·rw[if_neg h3]
    rcases h4:numb s (k+2) lo with _ | hi
    ·exact⟨by omega,by omega⟩
    ·have hk3:=(z5m h4).1
     have:=z9y (s:=s) (k:=k+3) lo hi;dsimp only
     rcases h5:closeB s (k+3) lo hi with q | ⟨a,q⟩
     ·rw[h5] at this;dsimp only at this ⊢;omega
     ·rw[h5] at this;dsimp only at this ⊢;omega
  ·rw[if_neg h2]
   have:=z9y (s:=s) (k:=k+1) lo lo
   rcases h5:closeB s (k+1) lo lo with q | ⟨a,q⟩
   ·rw[h5] at this;dsimp only at this ⊢;omega
   ·rw[h5] at this;dsimp only at this ⊢;omega
theorem y6v {s:Bs} {k:Nat} (h:k≤s.length):match cls s k with
  | .bad q=>k≤q∧q≤s.length
  | .ok _ q=>k<q∧q≤s.length:=by
 unfold cls;by_cases h1:s[k]?=some 94
 ·rw[if_pos h1]
  have hk:=z0r h1
  rcases h2:goS s (k+1) [] with q | ⟨l,q⟩
  ·have:=y16 (by omega) h2;dsimp only;omega
  ·have:=z85 (by omega) h2;dsimp only;omega
 ·rw[if_neg h1]
  rcases h2:goS s k [] with q | ⟨l,q⟩
  ·exact y16 h h2
  ·have:=z85 h h2;exact⟨this.1,this.2.1⟩
theorem z13 {s:Bs} {grp:Rd} (hg:Good s grp):Good s (atomR grp s):=by
 intro k g hk;unfold atomR
 split
 ·exact⟨fun q e h=>(by cases h),fun x q g' h=>by injection h with _ h;omega⟩
 ·split
  ·exact⟨fun q e h=>(by cases h),fun x q g' h=>by injection h with _ h;omega⟩
  ·split
   ·exact⟨fun q e h=>(by cases h),fun x q g' h=>by injection h with _ h;omega⟩
   ·split
    ·exact hg k g hk
    ·split
     ·have:=y6v (s:=s) (k:=k+1) (by omega)
      rcases h1:cls s (k+1) with q | ⟨S,q⟩
      ·rw[h1] at this
       exact⟨fun q' e h=>by injection h with h h2;dsimp only at this;omega,fun x q g' h=>by cases h⟩
      ·rw[h1] at this
       exact⟨fun q e h=>(by cases h),fun x q g' h=>by injection h with _ h;dsimp only at this;omega⟩
     ·rcases h1:rb sgA s k with q | ⟨c,q⟩
      ·have:=y4x (by omega) h1
       exact⟨fun q' e h=>by injection h with h h2;omega,fun x q g' h=>by cases h⟩
      ·have:=rb_ok (by omega) h1
       exact⟨fun q e h=>(by cases h),fun x q g' h=>by injection h with _ h;omega⟩
theorem z5p {s:Bs} {x:Re} {k q g:Nat} (hk:k<q) (hq:q≤s.length):(∀ p e,tailP s x q g= .bad p e→k≤p∧p≤s.length∧(e=1∨e=8∧p<s.length))∧∀ y p g',tailP s x q g= .ok y p g'→k<p∧p≤s.length:=by
 unfold tailP;have hlt:∀ c,s[q]?=some c→q+1≤s.length:=fun c h=>by have:=z0r h;omega
 split
 ·rename_i h1;have:=hlt _ h1
  exact⟨fun q e h=>(by cases h),fun x q g' h=>by injection h with _ h;omega⟩
 ·split
  ·rename_i h1;have:=hlt _ h1
   exact⟨fun q e h=>(by cases h),fun x q g' h=>by injection h with _ h;omega⟩
  ·split
   ·rename_i h1;have:=hlt _ h1
    exact⟨fun q e h=>(by cases h),fun x q g' h=>by injection h with _ h;omega⟩
   ·split
    ·rename_i h1;have:=hlt _ h1
     have hb:=z8n (s:=s) (k:=q+1) (by omega)
     rcases h2:bnds s (q+1) with p | ⟨b,p⟩
     ·rw[h2] at hb
      exact⟨fun q' e h=>by injection h with h h2;dsimp only at hb;omega,fun x q g' h=>by cases h⟩
     ·rw[h2] at hb
      exact⟨fun q e h=>(by cases h),fun x q g' h=>by injection h with _ h;dsimp only at hb;omega⟩
    ·exact⟨fun q e h=>(by cases h),fun x q g' h=>by injection h with _ h;omega⟩
theorem z1w {s:Bs} {grp:Rd} (hg:Good s grp):Good s (pieceC grp s):=by
 intro k g hk;obtain⟨h1,h2⟩:=z13 hg k g hk;unfold pieceC
 rcases ha:atomR grp s k g with ⟨q,e⟩ | ⟨x,q,g'⟩
 ·have:=h1 q e ha
  exact⟨fun q' e' h=>by injection h with h h3;subst h h3;exact this,fun x q g' h=>by cases h⟩
 ·have:=h2 x q g' ha
  dsimp only
  split
  ·exact z5p this.1 this.2
  ·exact⟨fun q e h=>(by cases h),fun x q g' h=>by injection h with _ h;omega⟩
theorem z0v {s:Bs} {grp:Rd} (hg:Good s grp):Good s (pieceR grp s):=by
 intro k g hk;obtain⟨h1,h2⟩:=z13 hg k g hk;unfold pieceR
 rcases ha:atomR grp s k g with ⟨q,e⟩ | ⟨x,q,g'⟩
 ·have:=h1 q e ha
  exact⟨fun q' e' h=>by injection h with h h3;subst h h3;exact this,fun x q g' h=>by cases h⟩
 ·have:=h2 x q g' ha
  dsimp only
  split
  ·exact z5p this.1 this.2
  ·split
   ·exact⟨fun q' e h=>by injection h with h h2;omega,fun x q g' h=>by cases h⟩
   ·exact⟨fun q e h=>(by cases h),fun x q g' h=>by injection h with _ h;omega⟩
theorem z4u {s:Bs} {k:Nat} (h:stops s k=false):k<s.length:=by
 unfold stops at h
 split at h
 ·cases h
 ·rename_i c hc;exact z0r hc
theorem z2m {pc:Rd} {s:Bs} {k g:Nat} {acc:List Re} (h:stops s k=true):rowL pc s k g acc= .ok acc k g:=by rw[rowL,if_pos h]
theorem z2b {pc:Rd} {s:Bs} {k g q:Nat} {e:Int} {acc:List Re} (h:stops s k=false) (h1:pc k g= .bad q e):rowL pc s k g acc= .bad q e:=by
 rw[rowL,if_neg (by simp[h]),h1]
theorem z27 {pc:Rd} {s:Bs} {k g q g':Nat} {x:Re} {acc:List Re} (h:stops s k=false) (h1:pc k g= .ok x q g') (h2:k<q∧q≤s.length):rowL pc s k g acc=rowL pc s q g' (acc++[x]):=by
 rw[rowL,if_neg (by simp[h]),h1];exact if_pos h2
theorem z3f {rw_:Rd} {s:Bs} {k g q:Nat} {e:Int} {acc:List Re} (h1:rw_ k g= .bad q e):altL rw_ s k g acc= .bad q e:=by rw[altL,h1]
theorem z3e {rw_:Rd} {s:Bs} {k g q g':Nat} {x:Re} {acc:List Re} (h1:rw_ k g= .ok x q g') (h:s[q]?≠some 124):altL rw_ s k g acc= .ok (acc++[x]) q g':=by
 rw[altL,h1];exact if_neg h
theorem z4m {rw_:Rd} {s:Bs} {k g q g':Nat} {x:Re} {acc:List Re} (h1:rw_ k g= .ok x q g') (h:s[q]?=some 124) (h2:k≤q):altL rw_ s k g acc=altL rw_ s (q+1) g' (acc++[x]):=by
 have:=z0r h;rw[altL,h1];dsimp only;rw[if_pos h,if_pos ⟨h2,this⟩]
theorem y0a {s:Bs} {pc:Rd} (hp:Good s pc):∀ (n k g:Nat) (acc:List Re),s.length - k<n→k≤s.length→(∀ q e,rowL pc s k g acc= .bad q e→k≤q∧q≤s.length∧(e=1∨e=8∧q<s.length))∧∀ x q g',rowL pc s k g acc= .ok x q g'→k≤q∧q≤s.length
 | 0,k,g,acc,h,hk=>by omega
 | n+1,k,g,acc,h,hk=>by
   cases hs:stops s k with
   | true=>rw[z2m hs];exact⟨fun q e h=>(by cases h),fun x q g' h=>by injection h with _ h;omega⟩
   | false=>
     obtain⟨h1,h2⟩:=hp k g (z4u hs)
     rcases ha:pc k g with ⟨q,e⟩ | ⟨x,q,g'⟩
     ·rw[z2b hs ha]
      have:=h1 q e ha;exact⟨fun q' e' h=>by injection h with h h3;subst h h3;exact this,fun x q g' h=>by cases h⟩
     ·have hq:=h2 x q g' ha
      rw[z27 hs ha hq];obtain⟨i1,i2⟩:=y0a hp n q g' (acc++[x]) (by omega) hq.2;exact⟨fun p e hp=>by have:=i1 p e hp;omega,fun y p g2 hp=>by have:=i2 y p g2 hp;omega⟩
theorem z1h {s:Bs} {pc:Rd} (hp:Good s pc):GoodE s (rowOf pc s):=by
 intro k g hk;obtain⟨h1,h2⟩:=y0a hp (s.length - k+1) k g [] (by omega) hk;unfold rowOf
 rcases ha:rowL pc s k g [] with ⟨q,e⟩ | ⟨x,q,g'⟩
 ·have:=h1 q e ha
  exact⟨fun q' e' h=>by injection h with h h3;subst h h3;exact this,fun x q g' h=>by cases h⟩
 ·have:=h2 x q g' ha
  exact⟨fun q e h=>(by cases h),fun x q g' h=>by injection h with _ h;omega⟩
theorem y0h {s:Bs} {rw_:Rd} (hp:GoodE s rw_):∀ (n k g:Nat) (acc:List Re),s.length - k<n→k≤s.length→(∀ q e,altL rw_ s k g acc= .bad q e→k≤q∧q≤s.length∧(e=1∨e=8∧q<s.length))∧∀ x q g',altL rw_ s k g acc= .ok x q g'→k≤q∧q≤s.length
 | 0,k,g,acc,h,hk=>by omega
 | n+1,k,g,acc,h,hk=>by
   obtain⟨h1,h2⟩:=hp k g hk
   rcases ha:rw_ k g with ⟨q,e⟩ | ⟨x,q,g'⟩
   ·rw[z3f ha]
    have:=h1 q e ha;exact⟨fun q' e' h=>by injection h with h h3;subst h h3;exact this,fun x q g' h=>by cases h⟩
   ·have hq:=h2 x q g' ha
    by_cases hc:s[q]?=some 124
    ·have:=z0r hc
     rw[z4m ha hc hq.1];obtain⟨i1,i2⟩:=y0h hp n (q+1) g' (acc++[x]) (by omega) (by omega);exact⟨fun p e hp=>by have:=i1 p e hp;omega,fun y p g2 hp=>by have:=i2 y p g2 hp;omega⟩
    ·rw[z3e ha hc]
     exact⟨fun q e h=>(by cases h),fun x q g' h=>by injection h with _ h;omega⟩
theorem z5q {s:Bs} {rw_:Rd} (hp:GoodE s rw_):GoodE s (altOf rw_ s):=by
 intro k g hk;obtain⟨h1,h2⟩:=y0h hp (s.length - k+1) k g [] (by omega) hk;unfold altOf
 rcases ha:altL rw_ s k g [] with ⟨q,e⟩ | ⟨x,q,g'⟩
 ·have:=h1 q e ha
  exact⟨fun q' e' h=>by injection h with h h3;subst h h3;exact this,fun x q g' h=>by cases h⟩
 ·have:=h2 x q g' ha
  exact⟨fun q e h=>(by cases h),fun x q g' h=>by injection h with _ h;omega⟩
theorem z11 {s:Bs} {pc:Rd→Rd} (hp:∀ grp,Good s grp→Good s (pc grp)):∀ m,Good s (grpM pc s m)
 | 0=>by
   intro k g hk;exact⟨fun q e h=>by injection h with h h2;omega,fun x q g' h=>by cases h⟩
 | m+1=>by
   intro k g hk;rw[z2y];obtain⟨h1,h2⟩:=z5q (z1h (hp _ (z11 hp m))) (k+1) (g+1) (by omega);unfold grpR
   rcases ha:exM pc s m (k+1) (g+1) with ⟨q,e⟩ | ⟨x,q,g'⟩
   ·have:=h1 q e ha
    exact⟨fun q' e' h=>by injection h with h h3;subst h h3;omega,fun x q g' h=>by cases h⟩
   ·have:=h2 x q g' ha
    dsimp only
    split
    ·rename_i hc
     have:=z0r hc;exact⟨fun q e h=>(by cases h),fun x q g' h=>by injection h with _ h;omega⟩
    ·exact⟨fun q' e h=>by injection h with h h2;omega,fun x q g' h=>by cases h⟩
theorem y9g {s:Bs} {pc:Rd→Rd} (hp:∀ grp,Good s grp→Good s (pc grp)) (m:Nat):GoodE s (exM pc s m):=z5q (z1h (hp _ (z11 hp m)))
theorem y8q (s:Bs) (m:Nat):GoodE s (exR s m):=y9g (fun _ h=>z0v h) m
theorem x0b (sg s:Bs) (k:Nat):rb sg s k=match s[k]? with
  | none=> .bad k
  | some c=>if c=92 then (match s[k+1]? with
   | none=> .bad (k+1)
   | some d=> .ok d (k+2)) else if c∈sg then .bad k else .ok c (k+1):=by
 unfold rb
 rcases h:s.drop k with _ | ⟨c,r⟩
 ·have:s[k]?=none:=by rw[List.getElem?_eq_none];simpa using h
  rw[this]
 ·have h0:s[k]?=some c:=by
   have:=List.getElem?_drop (xs:=s) (i:=k) (j:=0);rw[h] at this;simpa using this.symm
  have h1:s[k+1]?=r.head?:=by
   have:=List.getElem?_drop (xs:=s) (i:=k) (j:=1);rw[h] at this
   cases r <;> simpa using this.symm
  rw[h0,h1];dsimp only
  cases r <;> rfl
def TimesW (R:Nat→Nat→Prop):Nat→Nat→Nat→Prop
 | 0,i,j=>i=j
 | n+1,i,j=>∃ m,R i m∧TimesW R n m j
mutual
def Way (s:Bs) (b e:Bool):Re→Nat→Nat→Prop
 | .mk k S ks lo hi _,i,j=>if k=0 then i=j else if k=1 then (∃ c,s[i]?=some c∧mem S c.toNat=true∧j=i+1)
   else if k=2 then i=j∧i=0∧b=true else if k=3 then i=j∧i=s.length∧e=true
   else if k=5 then WayA s b e ks i j else if k=6 then (∃ n:Nat,lo≤n∧(hi<0∨n≤hi)∧TimesW (WayL s b e ks) n i j) else WayL s b e ks i j
def WayL (s:Bs) (b e:Bool):List Re→Nat→Nat→Prop
 | [],i,j=>i=j
 | r::rs,i,j=>∃ m,Way s b e r i m∧WayL s b e rs m j
def WayA (s:Bs) (b e:Bool):List Re→Nat→Nat→Prop
 | [],_,_=>False
 | r::rs,i,j=>Way s b e r i j∨WayA s b e rs i j
end
def Re.lo:Re→Int | .mk _ _ _ lo _ _=>lo
def Re.hi:Re→Int | .mk _ _ _ _ hi _=>hi
def Re.set:Re→S4 | .mk _ S _ _ _ _=>S
def cntQ (r:Re):Bool:=decide (r.kind=6) && (decide (1<r.hi) || (decide (r.hi<0) && decide (1<r.lo)))
mutual
def cntE:Re→Nat
 | .mk k S ks lo hi n=>(if cntQ (.mk k S ks lo hi n)=true then 1 else 0)+cntL ks
def cntL:List Re→Nat
 | []=>0
 | r::rs=>cntE r+cntL rs
end
structure Nd where
 r:Re
 kids:List Nat
 par:Nat
 nx:Nat
 cn:Nat
def kidsAt:Nat→List Re→List Nat
 | _,[]=>[]
 | n,r::rs=>n::kidsAt (n+sizeE r) rs
mutual
def tabE:Re→Nat→Nat→Nat→Nat→List Nd
 | .mk k S ks lo hi g,n,p,nx,c=>⟨.mk k S ks lo hi g,kidsAt (n+1) ks,p,nx,if cntQ (.mk k S ks lo hi g)=true then c+1 else 0⟩::
  tabL ks (decide (k=4)) (n+1) n (if cntQ (.mk k S ks lo hi g)=true then c+1 else c)
def tabL:List Re→Bool→Nat→Nat→Nat→List Nd
 | [],_,_,_,_=>[]
 | r::rs,q,n,p,c=>tabE r n p (if q=true∧rs≠[] then n+sizeE r else 0) c++tabL rs q (n+sizeE r) p (c+cntE r)
end
theorem z25 (r:Re):∀ n p nx c,(tabE r n p nx c).length=sizeE r:=by
 induction r using Re.ind with
 | h k S ks lo hi g ih=>
   intro n p nx c;rw[tabE,sizeE,List.length_cons]
   have:∀ q n p c,(tabL ks q n p c).length=sizeL ks:=by
    induction ks with
    | nil=>intros;rw[tabL,sizeL];rfl
    | cons r l ihl=>
      intro q n p c;rw[tabL,sizeL,List.length_append,ih r (List.mem_cons_self ..),ihl (fun x hx=>ih x (List.mem_cons_of_mem _ hx))]
   rw[this];omega
theorem z2d:∀ (l:List Re) q n p c,(tabL l q n p c).length=sizeL l
 | [],_,_,_,_=>by rw[tabL,sizeL];rfl
 | r::l,q,n,p,c=>by rw[tabL,sizeL,List.length_append,z25,z2d l]
theorem z6v (r:Re):0<sizeE r:=by cases r;rw[sizeE];omega
def Sub (T:List Nd) (n:Nat) (r:Re) (p nx c:Nat):Prop:=∃ z,T.drop n=tabE r n p nx c++z
def SubL (T:List Nd) (n:Nat) (l:List Re) (q:Bool) (p c:Nat):Prop:=∃ z,T.drop n=tabL l q n p c++z
def ndOf (r:Re) (n p nx c:Nat):Nd:=⟨r,kidsAt (n+1) r.kids,p,nx,if cntQ r=true then c+1 else 0⟩
theorem y2y {T:List Nd} {n p nx c:Nat} {r:Re} (h:Sub T n r p nx c):T[n]?=some (ndOf r n p nx c):=by
 obtain⟨z,h⟩:=h;have e:=congrArg (fun l=>l[0]?) h;simp only[List.getElem?_drop,Nat.add_zero] at e;rw[e]
 cases r with
 | mk k S ks lo hi g=>rw[tabE];rfl
theorem z52 {T:List Nd} {n p nx c:Nat} {r:Re} (h:Sub T n r p nx c):SubL T (n+1) r.kids (decide (r.kind=4)) n (if cntQ r=true then c+1 else c):=by
 obtain⟨z,h⟩:=h
 cases r with
 | mk k S ks lo hi g=>
   rw[tabE] at h;have e:=congrArg (List.drop 1) h;rw[List.drop_drop] at e;exact⟨z,e⟩
theorem z5c {T:List Nd} {n p c:Nat} {q:Bool} {r:Re} {rs:List Re} (h:SubL T n (r::rs) q p c):
  Sub T n r p (if q=true∧rs≠[] then n+sizeE r else 0) c∧SubL T (n+sizeE r) rs q p (c+cntE r):=by
 obtain⟨z,h⟩:=h;rw[tabL,List.append_assoc] at h;refine⟨⟨_,h⟩,z,?_⟩;have e:=congrArg (List.drop (sizeE r)) h;rw[List.drop_drop,List.drop_left' (z25 _ _ _ _ _)] at e;exact e
theorem x4k (r:Re):∀ {T:List Nd} {n p nx c:Nat},Sub T n r p nx c→∀ m,n≤m→m<n+sizeE r→∃ r' p' nx' c',Sub T m r' p' nx' c'∧(m=n∨n<m):=by
 induction r using Re.ind with
 | h k S ks lo hi g ih=>
   intro T n p nx c h m h1 h2;by_cases hm:m=n
   ·subst hm;exact⟨_,_,_,_,h,.inl rfl⟩
   ·have hk:=z52 h
    rw[sizeE] at h2
    have hL:∀ (l:List Re),(∀ r∈l,r∈ks)→∀ a c q,SubL T a l q n c→a≤m→m<a+sizeL l→∃ r' p' nx' c',Sub T m r' p' nx' c':=by
     intro l
     induction l with
     | nil=>intro _ a c q _ h3 h4;rw[sizeL] at h4;omega
     | cons x l ihl=>
       intro hx a c q h3 h4 h5;obtain⟨s1,s2⟩:=z5c h3;rw[sizeL] at h5;by_cases hc:m<a+sizeE x
       ·obtain⟨r',p',nx',c',h6,_⟩:=ih x (hx x (List.mem_cons_self ..)) s1 m h4 hc
        exact⟨r',p',nx',c',h6⟩
       ·exact ihl (fun y hy=>hx y (List.mem_cons_of_mem _ hy)) _ _ _ s2 (by omega) (by omega)
    obtain⟨r',p',nx',c',h6⟩:=hL ks (fun _ h=>h) _ _ _ hk (by omega) (by omega);exact⟨r',p',nx',c',h6,.inr (by omega)⟩
def Fine:Re→Prop
 | .mk k S ks lo hi n=>told (.mk k S ks lo hi n)=true∧lev k≤3∧∀ r,r∈ks→Fine r
theorem z36 (r:Re):∀ {lv d g x:Nat},lv≤3→form r lv d g=some x→Fine r:=by
 induction r using Re.ind with
 | h k S ks lo hi n ih=>
   intro lv d g x hlv h;rw[form] at h
   split at h
   ·rename_i h1
    have hL:∀ (l:List Re),(∀ r∈l,r∈ks)→∀ {lv d g x:Nat},lv≤3→formL l lv d g=some x→∀ r,r∈l→Fine r:=by
     intro l
     induction l with
     | nil=>intro _ _ _ _ _ _ _ r hr;cases hr
     | cons y l ihl=>
       intro hx lv d g x h3 h4 r hr;rw[formL] at h4
       split at h4
       ·cases h4
       ·rename_i g' hg
        rcases List.mem_cons.1 hr with rfl | hr
        ·exact ih _ (hx _ (List.mem_cons_self ..)) h3 hg
        ·exact ihl (fun z hz=>hx z (List.mem_cons_of_mem _ hz)) h3 h4 r hr
    rw[Fine];refine⟨h1.2,by omega,?_⟩
    split at h
    ·split at h
     ·exact hL ks (fun _ h=>h) (by omega) h
     ·cases h
    ·exact hL ks (fun _ h=>h) (by unfold levK;split <;> (try split) <;> (try split) <;> omega) h
   ·cases h
theorem Fine.kids {r x:Re} (h:Fine r) (hx:x∈r.kids):Fine x:=by
 cases r with
 | mk k S ks lo hi n=>rw[Fine] at h;exact h.2.2 x hx
theorem Fine.cases {r:Re} (h:Fine r):
  (r.kind=0∧r.kids=[])∨(r.kind=1∧r.kids=[])∨(r.kind=2∧r.kids=[])∨(r.kind=3∧r.kids=[])∨
  (r.kind=4∧∃ x y l,r.kids=x::y::l)∨(r.kind=5∧∃ x y l,r.kids=x::y::l)∨
  (r.kind=6∧(∃ x,r.kids=[x])∧0≤r.lo∧r.lo≤8∧(r.hi= -1∨r.lo≤r.hi∧r.hi≤8))∨(r.kind=7∧∃ x,r.kids=[x]):=by
 cases r with
 | mk k S ks lo hi n=>
   rw[Fine] at h;obtain⟨h1,h2,_⟩:=h;simp only[Re.kind,Re.kids,Re.lo,Re.hi];unfold told at h1;simp only[Bool.and_eq_true] at h1;obtain⟨_,_,h3⟩:=h1
   have hk:k=0∨k=1∨k=2∨k=3∨k=4∨k=5∨k=6∨k=7:=by
    unfold lev at h2
    split at h2
    ·omega
    ·split at h2
     ·omega
     ·split at h2
      ·omega
      ·split at h2
       ·omega
       ·omega
   have two:∀ {l:List Re},2≤l.length→∃ x y l',l=x::y::l':=by
    intro l hl
    match l,hl with
    | x::y::l',_=>exact⟨x,y,l',rfl⟩
   have one:∀ {l:List Re},l.length=1→∃ x,l=[x]:=by
    intro l hl
    match l,hl with
    | [x],_=>exact⟨x,rfl⟩
   have six:k=6→(∃ x,ks=[x])∧bound lo hi=true:=by
    intro h6;rw[if_pos h6,Bool.and_eq_true] at h3;refine⟨?_,h3.2⟩
    match ks,h3.1 with
    | [x],_=>exact⟨x,rfl⟩
   have rest:k≠6→(if k=7 then decide (ks.length=1) else if k=4∨k=5 then decide (2≤ks.length) else decide (ks.length=0))=true:=by
    intro h6;rw[if_neg h6] at h3;simp only[Bool.and_eq_true] at h3;exact h3.2.2
   rcases hk with rfl | rfl | rfl | rfl | rfl | rfl | rfl | rfl
   ·exact .inl ⟨rfl,by simpa using rest (by decide)⟩
   ·exact .inr (.inl ⟨rfl,by simpa using rest (by decide)⟩)
   ·exact .inr (.inr (.inl ⟨rfl,by simpa using rest (by decide)⟩))
   ·exact .inr (.inr (.inr (.inl ⟨rfl,by simpa using rest (by decide)⟩)))
   ·exact .inr (.inr (.inr (.inr (.inl ⟨rfl,two (by simpa using rest (by decide))⟩))))
   ·exact .inr (.inr (.inr (.inr (.inr (.inl ⟨rfl,two (by simpa using rest (by decide))⟩)))))
   ·obtain⟨h4,h5⟩:=six rfl
    unfold bound at h5;simp only[Bool.and_eq_true,Bool.or_eq_true,decide_eq_true_eq] at h5;exact .inr (.inr (.inr (.inr (.inr (.inr (.inl ⟨rfl,h4,h5.1,h5.2.1,by omega⟩))))))
   ·exact .inr (.inr (.inr (.inr (.inr (.inr (.inr ⟨rfl,one (by simpa using rest (by decide))⟩))))))
theorem y8u (R:Re) (hR:Fine R):∀ {T:List Nd} {n p nx c:Nat},Sub T n R p nx c→∀ m,n≤m→m<n+sizeE R→∃ r p' nx' c',Sub T m r p' nx' c'∧Fine r:=by
 induction R using Re.ind with
 | h k S ks lo hi g ih=>
   intro T n p nx c h m h1 h2;by_cases hm:m=n
   ·subst hm;exact⟨_,_,_,_,h,hR⟩
   ·have hk:=z52 h
    rw[sizeE] at h2
    have hL:∀ (l:List Re),(∀ r∈l,r∈ks)→∀ a c q,SubL T a l q n c→a≤m→m<a+sizeL l→∃ r' p' nx' c',Sub T m r' p' nx' c'∧Fine r':=by
     intro l
     induction l with
     | nil=>intro _ a c q _ h3 h4;rw[sizeL] at h4;omega
     | cons x l ihl=>
       intro hx a c q h3 h4 h5;obtain⟨s1,s2⟩:=z5c h3;rw[sizeL] at h5;by_cases hc:m<a+sizeE x
       ·exact ih x (hx x (List.mem_cons_self ..)) (hR.kids (hx x (List.mem_cons_self ..))) s1 m h4 hc
       ·exact ihl (fun y hy=>hx y (List.mem_cons_of_mem _ hy)) _ _ _ s2 (by omega) (by omega)
    exact hL ks (fun _ h=>h) _ _ _ hk (by omega) (by omega)
theorem z7v (s:Bs) (b e:Bool) (r:Re):∀ i j,Way s b e r i j→i≤j:=by
 induction r using Re.ind with
 | h k S ks lo hi n ih=>
   have hL:∀ (l:List Re),(∀ r∈l,r∈ks)→(∀ i j,WayL s b e l i j→i≤j)∧∀ i j,WayA s b e l i j→i≤j:=by
    intro l
    induction l with
    | nil=>intro _;refine⟨fun i j h=>?_,fun i j h=>?_⟩ <;> simp only[WayL,WayA] at h;omega
    | cons x l ihl=>
      intro hx;obtain⟨a1,a2⟩:=ihl fun y hy=>hx y (List.mem_cons_of_mem _ hy)
      have hx0:=ih x (hx x (List.mem_cons_self ..));refine⟨fun i j h=>?_,fun i j h=>?_⟩
      ·rw[WayL] at h
       obtain⟨m,h1,h2⟩:=h;have:=hx0 _ _ h1;have:=a1 _ _ h2;omega
      ·rw[WayA] at h
       rcases h with h | h
       ·exact hx0 _ _ h
       ·exact a2 _ _ h
   obtain⟨h1,h2⟩:=hL ks fun _ h=>h
   have hT:∀ n i j,TimesW (WayL s b e ks) n i j→i≤j:=by
    intro n
    induction n with
    | zero=>intro i j h;rw[TimesW] at h;omega
    | succ n ihn=>intro i j h;rw[TimesW] at h;obtain⟨m,h3,h4⟩:=h;have:=h1 _ _ h3;have:=ihn _ _ h4;omega
   intro i j h;rw[Way] at h
   split at h
   ·omega
   split at h
   ·obtain⟨c,_,_,h⟩:=h;omega
   split at h
   ·omega
   split at h
   ·omega
   split at h
   ·exact h2 _ _ h
   split at h
   ·obtain⟨n,_,_,h⟩:=h;exact hT _ _ _ h
   ·exact h1 _ _ h
theorem y70 {s:Bs} {b e:Bool} {x:Re} {i j:Nat}:WayL s b e [x] i j ↔ Way s b e x i j:=by
 rw[WayL]
 constructor
 ·rintro⟨m,h1,h2⟩;rw[WayL] at h2;subst h2;exact h1
 ·intro h;exact⟨j,h,by rw[WayL]⟩
theorem y5k (s:Bs) (b e:Bool) (x:Re):WayL s b e [x]=Way s b e x:=by funext i j;exact propext y70
theorem y4o {s:Bs} {b e:Bool} {r x:Re} {i j:Nat} (hk:r.kind=6) (hx:r.kids=[x]):Way s b e r i j ↔ ∃ n:Nat,r.lo≤n∧(r.hi<0∨n≤r.hi)∧TimesW (Way s b e x) n i j:=by
 cases r with
 | mk k S ks lo hi n=>
   simp only[Re.kind,Re.kids,Re.lo,Re.hi] at *;subst hk;subst hx;rw[Way,y5k];simp
theorem y54 {s:Bs} {b e:Bool} {r:Re} {i j:Nat} (hk:r.kind=4∨r.kind=7):Way s b e r i j ↔ WayL s b e r.kids i j:=by
 cases r with
 | mk k S ks lo hi n=>
   simp only[Re.kind,Re.kids] at *
   rcases hk with rfl | rfl <;> (rw[Way];simp)
theorem y6g {s:Bs} {b e:Bool} {r:Re} {i j:Nat} (hk:r.kind=5):Way s b e r i j ↔ WayA s b e r.kids i j:=by
 cases r with
 | mk k S ks lo hi n=>
   simp only[Re.kind,Re.kids] at *;subst hk;rw[Way];simp
theorem y4c {s:Bs} {b e:Bool} {r:Re} {i j:Nat} (hk:r.kind=1):Way s b e r i j ↔ ∃ c,s[i]?=some c∧mem r.set c.toNat=true∧j=i+1:=by
 cases r with
 | mk k S ks lo hi n=>
   simp only[Re.kind,Re.set] at *;subst hk;rw[Way];simp
theorem way_0 {s:Bs} {b e:Bool} {r:Re} {i j:Nat} (hk:r.kind=0):Way s b e r i j ↔ i=j:=by
 cases r with
 | mk k S ks lo hi n=>simp only[Re.kind] at *;subst hk;rw[Way];simp
theorem way_2 {s:Bs} {b e:Bool} {r:Re} {i j:Nat} (hk:r.kind=2):Way s b e r i j ↔ i=j∧i=0∧b=true:=by
 cases r with
 | mk k S ks lo hi n=>simp only[Re.kind] at *;subst hk;rw[Way];simp
theorem way_3 {s:Bs} {b e:Bool} {r:Re} {i j:Nat} (hk:r.kind=3):Way s b e r i j ↔ i=j∧i=s.length∧e=true:=by
 cases r with
 | mk k S ks lo hi n=>simp only[Re.kind] at *;subst hk;rw[Way];simp
end Go.Proofs.YtejgbpbljdhndaaDoor
