import Derived.WalkKit
import Derived.Test.YtdobinjbejagcaaGreatDoorName
import Derived.Test.YtdobinjbejagcaaGreatDoorRows
import Derived.WalkSpells
import Derived.WalkLawsBesides
import Derived.Lib.Hide
import Derived.Outline
import Derived.Test.YtdobinjbejagcaaGreatDoorShelf
import Derived.Laws.IdiomStrings
import Derived.Laws.OwnMore
import Derived.Lib.SmallJoins
import Derived.Lib.UnsafeStr
import Derived.Deep.Onto
namespace Go.Proofs.YtdobinjbejagcaaGreatDoor
open Go Go.RowKit
set_option maxHeartbeats 2000000
abbrev Sp:=UInt8 × UInt8
structure Gl where
 kind:Int
 byte:UInt8
 spans:List Sp
theorem all256Gl (P:UInt8→Prop) (h:∀ n,n<256→P (UInt8.ofNat n)) (c:UInt8):P c:=by
 have:=h c.toNat (UInt8.toNat_lt c);rwa [UInt8.ofNat_toNat] at this
def sgI:Bs:=[93,45,92]
inductive Res (α:Type) where
 | bad (q:Nat) | ok (a:α) (q:Nat)
def rb (sg s:Bs) (k:Nat):Res UInt8:=
 match s.drop k with
 | []=> .bad k
 | c::r=>if c=92 then (match r with
  | []=> .bad (k+1)
  | d::_=> .ok d (k+2)) else if c∈sg then .bad k else .ok c (k+1)
def item (s:Bs) (k:Nat):Res Sp:=
 match rb sgI s k with
 | .bad q=> .bad q
 | .ok lo q=>if s[q]?=some 45 then (match rb sgI s (q+1) with
   | .bad q2=> .bad q2
   | .ok hi q2=>if (hi.toNat:Int)<(lo.toNat:Int) then .bad (q2 - 1) else .ok (lo,hi) q2)
   else .ok (lo,lo) q
def goS (s:Bs) (k:Nat) (acc:List Sp):Res (List Sp):=
 if acc≠[]∧s[k]?=some 93 then .ok acc (k+1) else match item s k with
  | .bad q=> .bad q
  | .ok sp q=>if k<q∧q≤s.length then goS s q (acc++[sp]) else .bad q
termination_by s.length - k
decreasing_by omega
def piece (s:Bs) (k:Nat):Res Gl:=
 if s[k]?=some 42 then .ok ⟨2,0,[]⟩ (k+1) else if s[k]?=some 63 then .ok ⟨1,0,[]⟩ (k+1)
 else if s[k]?=some 91 then (match goS s (k+1) [] with
  | .bad q=> .bad q
  | .ok l q=> .ok ⟨3,0,l⟩ q)
 else match rb [] s k with
  | .bad q=> .bad q
  | .ok b q=> .ok ⟨0,b,[]⟩ q
def goP (s:Bs) (k:Nat) (acc:List Gl):Option (List Gl) × Nat:=
 if k<s.length then (match piece s k with
  | .bad q=>(none,q)
  | .ok g q=>if k<q∧q≤s.length then goP s q (acc++[g]) else (none,q))
 else (some acc,0)
termination_by s.length - k
decreasing_by omega
def parseGl (s:Bs):Option (List Gl) × Nat × Int:=
 if 200<s.length then (none,200,2) else match goP s 0 [] with
  | (none,q)=>(none,q,1)
  | (some l,q)=>(some l,q,0)
theorem rb_bd {sg s:Bs} {k:Nat} (h:k≤s.length):match rb sg s k with
  | .bad q=>k≤q∧q≤s.length
  | .ok _ q=>k<q∧q≤s.length:=by
 unfold rb;have hl:=List.length_drop (i:=k) (l:=s)
 rcases hd:s.drop k with _ | ⟨c,r⟩
 ·exact⟨Nat.le_refl _,h⟩
 ·rw[hd] at hl
  simp only[List.length_cons] at hl;dsimp only
  split
  ·rename_i q heq
   split at heq
   ·rcases r with _ | ⟨d,r⟩
    ·injection heq with heq;subst heq;omega
    ·cases heq
   ·split at heq
    ·injection heq with heq;subst heq;omega
    ·cases heq
  ·rename_i b q heq
   split at heq
   ·rcases r with _ | ⟨d,r⟩
    ·cases heq
    ·injection heq with _ heq;subst heq;simp at hl;omega
   ·split at heq
    ·cases heq
    ·injection heq with _ heq;subst heq;omega
theorem rb_bad {sg s:Bs} {k q:Nat} (h:k≤s.length) (hr:rb sg s k= .bad q):k≤q∧q≤s.length:=by
 have:=rb_bd (sg:=sg) h;rw[hr] at this;exact this
theorem rb_ok {sg s:Bs} {k q:Nat} {c:UInt8} (h:k≤s.length) (hr:rb sg s k= .ok c q):k<q∧q≤s.length:=by
 have:=rb_bd (sg:=sg) h;rw[hr] at this;exact this
theorem lt_of_get {s:Bs} {k:Nat} {c:UInt8} (h:s[k]?=some c):k<s.length:=(List.getElem?_eq_some_iff.1 h).1
theorem item_bd {s:Bs} {k:Nat} (h:k≤s.length):match item s k with
  | .bad q=>k≤q∧q≤s.length
  | .ok _ q=>k<q∧q≤s.length:=by
 unfold item
 rcases hr:rb sgI s k with q | ⟨lo,q⟩
 ·exact rb_bad h hr
 ·obtain⟨a,b⟩:=rb_ok h hr
  dsimp only;by_cases h45:s[q]?=some 45
  ·rw[if_pos h45]
   have hq:=lt_of_get h45
   rcases hr2:rb sgI s (q+1) with q2 | ⟨hi,q2⟩
   ·obtain⟨c,d⟩:=rb_bad (by omega) hr2
    exact⟨by omega,d⟩
   ·obtain⟨c,d⟩:=rb_ok (by omega) hr2
    dsimp only;by_cases hlt:(hi.toNat:Int)<(lo.toNat:Int)
    ·rw[if_pos hlt];exact⟨by omega,by omega⟩
    ·rw[if_neg hlt];exact⟨by omega,d⟩
  ·rw[if_neg h45];exact⟨a,b⟩
theorem item_bad {s:Bs} {k q:Nat} (h:k≤s.length) (hr:item s k= .bad q):k≤q∧q≤s.length:=by
 have:=item_bd h;rw[hr] at this;exact this
theorem item_ok {s:Bs} {k q:Nat} {c:Sp} (h:k≤s.length) (hr:item s k= .ok c q):k<q∧q≤s.length:=by
 have:=item_bd h;rw[hr] at this;exact this
theorem goS_end {s:Bs} {k:Nat} {acc:List Sp} (h:acc≠[]) (h1:s[k]?=some 93):goS s k acc= .ok acc (k+1):=by
 rw[goS,if_pos ⟨h,h1⟩]
theorem goS_bad {s:Bs} {k q:Nat} {acc:List Sp} (h:¬ (acc≠[]∧s[k]?=some 93)) (h1:item s k= .bad q):goS s k acc= .bad q:=by
 rw[goS,if_neg h,h1]
theorem goS_ok {s:Bs} {k q:Nat} {acc:List Sp} {sp:Sp} (h:¬ (acc≠[]∧s[k]?=some 93)) (hk:k≤s.length) (h1:item s k= .ok sp q):goS s k acc=goS s q (acc++[sp]):=by
 obtain⟨a,b⟩:=item_ok hk h1;rw[goS,if_neg h,h1];exact if_pos ⟨a,b⟩
theorem goS_ind {s:Bs} (P:Nat→List Sp→Prop)
  (h1:∀ k acc,acc≠[]→s[k]?=some 93→P k acc) (h2:∀ k q acc,k≤s.length→¬ (acc≠[]∧s[k]?=some 93)→item s k= .bad q→P k acc)
  (h3:∀ k q acc sp,k≤s.length→¬ (acc≠[]∧s[k]?=some 93)→item s k= .ok sp q→P q (acc++[sp])→P k acc):∀ (n k:Nat) (acc:List Sp),s.length - k<n→k≤s.length→P k acc
 | 0,k,acc,h,hk=>by omega
 | n+1,k,acc,h,hk=>by
   by_cases he:acc≠[]∧s[k]?=some 93
   ·exact h1 k acc he.1 he.2
   ·rcases hi:item s k with q | ⟨sp,q⟩
    ·exact h2 k q acc hk he hi
    ·obtain⟨a,b⟩:=item_ok hk hi
     exact h3 k q acc sp hk he hi (goS_ind P h1 h2 h3 n q _ (by omega) b)
theorem goS_bd {s:Bs} {k:Nat} (acc:List Sp) (hk:k≤s.length):match goS s k acc with
  | .bad q=>k≤q∧q≤s.length
  | .ok l q=>k<q∧q≤s.length∧l≠[]:=by
 refine goS_ind (s:=s) (fun k acc=>match goS s k acc with
  | .bad q=>k≤q∧q≤s.length
  | .ok l q=>k<q∧q≤s.length∧l≠[]) ?_ ?_ ?_ (s.length - k+1) k acc (by omega) hk
 ·intro k acc h h1
  have:=lt_of_get h1;rw[goS_end h h1];exact⟨by omega,by omega,h⟩
 ·intro k q acc hk he hi
  rw[goS_bad he hi];exact item_bad hk hi
 ·intro k q acc sp hk he hi ih
  obtain⟨a,b⟩:=item_ok hk hi;rw[goS_ok he hk hi]
  rcases hg:goS s q (acc++[sp]) with q' | ⟨l,q'⟩
  ·rw[hg] at ih;exact⟨by omega,ih.2⟩
  ·rw[hg] at ih;exact⟨by omega,ih.2⟩
theorem goS_okb {s:Bs} {k q:Nat} {acc l:List Sp} (hk:k≤s.length) (h:goS s k acc= .ok l q):k<q∧q≤s.length∧l≠[]:=by
 have:=goS_bd acc hk;rw[h] at this;exact this
theorem piece_ok {s:Bs} {k q:Nat} {g:Gl} (hk:k<s.length) (h:piece s k= .ok g q):k<q∧q≤s.length:=by
 unfold piece at h
 split at h
 ·injection h with _ h;subst h;omega
 ·split at h
  ·injection h with _ h;subst h;omega
  ·split at h
   ·rcases hg:goS s (k+1) [] with q' | ⟨l,q'⟩
    ·rw[hg] at h;cases h
    ·rw[hg] at h
     have:=goS_okb (by omega) hg;injection h with _ h;subst h;omega
   ·rcases hg:rb [] s k with q' | ⟨l,q'⟩
    ·rw[hg] at h;cases h
    ·rw[hg] at h
     have:=rb_ok (by omega) hg;injection h with _ h;subst h;omega
theorem goP_end {s:Bs} {k:Nat} {acc:List Gl} (h:¬ k<s.length):goP s k acc=(some acc,0):=by
 rw[goP,if_neg h]
theorem goP_bad {s:Bs} {k q:Nat} {acc:List Gl} (h:k<s.length) (h1:piece s k= .bad q):goP s k acc=(none,q):=by
 rw[goP,if_pos h,h1]
theorem goP_ok {s:Bs} {k q:Nat} {acc:List Gl} {g:Gl} (h:k<s.length) (h1:piece s k= .ok g q):goP s k acc=goP s q (acc++[g]):=by
 obtain⟨a,b⟩:=piece_ok h h1;rw[goP,if_pos h,h1];exact if_pos ⟨a,b⟩
theorem len_dataGl (s:ByteArray):s.data.toList.length=s.size:=Array.length_toList
theorem drop_atGl (s:ByteArray) (k:Nat) (hk:k<s.size):s.data.toList.drop k=s[k]::s.data.toList.drop (k+1):=by
 rw[List.drop_eq_getElem_cons (i:=k) (l:=s.data.toList) (by rw[len_dataGl];exact hk)];simp;rfl
theorem drop_endGl (s:ByteArray) (k:Nat) (hk:¬ k<s.size):s.data.toList.drop k=[]:=by
 rw[List.drop_eq_nil_iff,len_dataGl];omega
theorem get_at (s:ByteArray) (k:Nat) (hk:k<s.size):s.data.toList[k]?=some s[k]:=by
 rw[List.getElem?_eq_getElem (by rw[len_dataGl];exact hk)];simp;rfl
theorem get_end (s:ByteArray) (k:Nat) (hk:¬ k<s.size):s.data.toList[k]?=none:=by
 rw[List.getElem?_eq_none];rw[len_dataGl];omega
theorem byte_eqGl {c:UInt8} {n:Nat} (h:c=UInt8.ofNat n) (hn:n<256):((c.toNat:Int)==(n:Int))=true:=by
 subst h;simp[Nat.mod_eq_of_lt hn]
theorem byte_neGl {c:UInt8} {n:Nat} (h:c≠UInt8.ofNat n) (_:n<256):((c.toNat:Int)==(n:Int))=false:=by
 rw[Bool.eq_false_iff];intro he;apply h;have h1:c.toNat=n:=by have:=eq_of_beq he;omega
 rw[←h1];simp
def setI:ByteArray:=⟨#[93,45,92]⟩
def Looks (set:ByteArray) (sg:Bs):Prop:=∀ c:UInt8,(0≤Lib.indexByte set.data.toList c ↔ c∈sg)∧ -1≤Lib.indexByte set.data.toList c∧Lib.indexByte set.data.toList c≤255
theorem looksI:Looks setI sgI:=all256Gl _ (by decide+kernel)
theorem looksE:Looks ⟨#[]⟩ []:=all256Gl _ (by decide+kernel)
theorem idx_isGl (set:ByteArray) (c:UInt8) (v:Int) (h:Lib.indexByte set.data.toList c=v) (w:World):
  Calls Tryz.prog 132 #[.string set,.int .u8 (c.toNat:Nat)] w fun e w'=>e= .returned (.int .i64 v)∧w=w':=
 (Tryz.strings_IndexByte set (c.toNat:Nat) w).mono fun e w' ⟨he,hw⟩=>⟨by rw[he,←h];simp,hw.symm⟩
def resB:Res UInt8→Value
 | .bad q=> .tuple #[.int .u8 0,.int .i64 q,.bool false]
 | .ok c q=> .tuple #[.int .u8 c.toNat,.int .i64 q,.bool true]
theorem readbyte_anyGl (set s:ByteArray) (sg:Bs) (k:Nat) (hl:Looks set sg) (hk:k≤s.size) (hs:s.size≤1000000) (w:World):
  Calls Tryz.prog 149 #[.string s,.int .i64 k,.string set] w fun e w'=>e= .returned (resB (rb sg s.data.toList k))∧w=w':=by
 obtain⟨R,hR⟩:∃ R,R=rb sg s.data.toList k:=⟨_,rfl⟩;rw[←hR];unfold rb at hR;by_cases a:k<s.size
 ·rw[drop_atGl s k a] at hR
  dsimp only at hR;by_cases c92:s[k]=92
  ·have b92:((s[k].toNat:Int)==92)=true:=byte_eqGl (n:=92) c92 (by omega)
   rw[if_pos c92] at hR;by_cases a1:k+1<s.size
   ·rw[drop_atGl s (k+1) a1] at hR
    have HR:=Lib.hid hR;have bk:(((k:Int)+1)==(s.size:Int))=false:=by simp;omega
    have bk2:((k+1)==s.size)=false:=by simp;omega
    have K:=Lib.hid fun w=>idx_isGl ⟨#[]⟩ s[k+1] (-1) (by simp[Lib.indexByte]) w
    clear hR c92 hl;go_enter Tryz.func149,Tryz.ntmps149;go_wp2_with (go_at_call 132;((with_reducible refine(K.out _).mono ?_));rintro e w' ⟨rfl,rfl⟩)
    go_ret3
    rw[HR.out];exact⟨rfl,rfl⟩
   ·rw[drop_endGl s (k+1) a1] at hR
    have HR:=Lib.hid hR;obtain hz:k+1=s.size:=by omega
    have bk:(((k:Int)+1)==(s.size:Int))=true:=by simp;omega
    have bk2:((k+1)==s.size)=true:=by simp;omega
    have HZ:=Lib.hid hz;clear hR c92 hl hz;go_enter Tryz.func149,Tryz.ntmps149;go_wp2
    go_ret3
    rw[HR.out];exact⟨rfl,rfl⟩
  ·have b92:((s[k].toNat:Int)==92)=false:=byte_neGl (n:=92) c92 (by omega)
   rw[if_neg c92] at hR;have bk:((k:Int)==(s.size:Int))=false:=by simp;omega
   have bk2:(k==s.size)=false:=by simp;omega
   obtain⟨l1,l2,l3⟩:=hl s[k];obtain⟨v,hv⟩:∃ v,v=Lib.indexByte set.data.toList s[k]:=⟨_,rfl⟩;have K:=Lib.hid fun w=>idx_isGl set s[k] v hv.symm w
   rw[←hv] at l1 l2 l3;by_cases hin:s[k]∈sg
   ·have h0:=l1.2 hin
    rw[if_pos hin] at hR;have HR:=Lib.hid hR;clear hR c92 hl l1 hin hv;go_enter Tryz.func149,Tryz.ntmps149;go_wp2_with (go_at_call 132;((with_reducible refine(K.out _).mono ?_));rintro e w' ⟨rfl,rfl⟩)
    go_ret3
    rw[HR.out];exact⟨rfl,rfl⟩
   ·have h0:¬ 0≤v:=fun x=>hin (l1.1 x)
    rw[if_neg hin] at hR;have HR:=Lib.hid hR;clear hR c92 hl l1 hin hv;go_enter Tryz.func149,Tryz.ntmps149;go_wp2_with (go_at_call 132;((with_reducible refine(K.out _).mono ?_));rintro e w' ⟨rfl,rfl⟩)
    go_ret3
    rw[HR.out];exact⟨rfl,rfl⟩
 ·rw[drop_endGl s k a] at hR
  have HR:=Lib.hid hR;obtain rfl:k=s.size:=by omega
  clear hR hl;go_enter Tryz.func149,Tryz.ntmps149;go_wp2
  go_ret3
  rw[HR.out];exact⟨rfl,rfl⟩
def resR (k:Nat):Res UInt8→Value
 | .bad q=> .tuple #[.int .u8 0,.int .i64 (-1),.int .i64 q]
 | .ok c q=> .tuple #[.int .u8 c.toNat,.int .i64 ((q:Int) - k),.int .i64 0]
theorem resR_ok {c:UInt8} {q k:Nat} {n:Int} (h:(q:Int) - k=n):resR k (.ok c q)= .tuple #[.int .u8 c.toNat,.int .i64 n,.int .i64 0]:=by simp only[resR,h]
theorem ritem_any (s:ByteArray) (k:Nat) (hk:k≤s.size) (hs:s.size≤1000000) (w:World):
  Calls Tryz.prog 114 #[.string s,.int .i64 k] w fun e w'=>e= .returned (resR k (rb sgI s.data.toList k))∧w=w':=by
 obtain⟨R,hR⟩:∃ R,R=rb sgI s.data.toList k:=⟨_,rfl⟩;rw[←hR];unfold rb at hR;by_cases a:k<s.size
 ·rw[drop_atGl s k a] at hR
  dsimp only at hR;by_cases c92:s[k]=92
  ·have b92:((s[k].toNat:Int) != 92)=false:=by
    have:=byte_eqGl (n:=92) c92 (by omega);simp only[bne];simpa using this
   have b93:((s[k].toNat:Int)==93)=false:=byte_neGl (n:=93) (by rw[c92];decide) (by omega);have b45:((s[k].toNat:Int)==45)=false:=byte_neGl (n:=45) (by rw[c92];decide) (by omega);rw[if_pos c92] at hR;by_cases a1:k+1<s.size
   ·rw[drop_atGl s (k+1) a1] at hR
    have HR:=Lib.hid hR;clear hR c92;go_enter Tryz.func114,Tryz.ntmps114;go_wp2
    go_ret3
    rw[HR.out,resR_ok (n:=2) (by omega)];exact⟨rfl,rfl⟩
   ·rw[drop_endGl s (k+1) a1] at hR
    have HR:=Lib.hid hR;clear hR c92;go_enter Tryz.func114,Tryz.ntmps114;go_wp2
    go_ret3
    rw[HR.out];exact⟨rfl,rfl⟩
  ·have b92:((s[k].toNat:Int) != 92)=true:=by
    have:=byte_neGl (n:=92) c92 (by omega);simp only[bne];simpa using this
   rw[if_neg c92] at hR;by_cases c93:s[k]=93
   ·have b93:((s[k].toNat:Int)==93)=true:=byte_eqGl (n:=93) c93 (by omega)
    rw[if_pos (by rw[c93];decide)] at hR;have HR:=Lib.hid hR;clear hR c92 c93;go_enter Tryz.func114,Tryz.ntmps114;go_wp2
    go_ret3
    rw[HR.out];exact⟨rfl,rfl⟩
   ·have b93:((s[k].toNat:Int)==93)=false:=byte_neGl (n:=93) c93 (by omega)
    by_cases c45:s[k]=45
    ·have b45:((s[k].toNat:Int)==45)=true:=byte_eqGl (n:=45) c45 (by omega)
     rw[if_pos (by rw[c45];decide)] at hR;have HR:=Lib.hid hR;clear hR c92 c93 c45;go_enter Tryz.func114,Tryz.ntmps114;go_wp2
     go_ret3
     rw[HR.out];exact⟨rfl,rfl⟩
    ·have b45:((s[k].toNat:Int)==45)=false:=byte_neGl (n:=45) c45 (by omega)
     rw[if_neg (by simp[sgI,c92,c93,c45])] at hR;have HR:=Lib.hid hR;clear hR c92 c93 c45;go_enter Tryz.func114,Tryz.ntmps114;go_wp2
     go_ret3
     rw[HR.out,resR_ok (n:=1) (by omega)];exact⟨rfl,rfl⟩
 ·rw[drop_endGl s k a] at hR
  have HR:=Lib.hid hR;obtain rfl:k=s.size:=by omega
  clear hR;go_enter Tryz.func114,Tryz.ntmps114;go_wp2
  go_ret3
  rw[HR.out];exact⟨rfl,rfl⟩
def cellsS (l:List Sp):List Value:=l.flatMap fun p=>[.int .u8 p.1.toNat,.int .u8 p.2.toNat]
theorem cellsS_append (a b:List Sp):cellsS (a++b)=cellsS a++cellsS b:=by simp[cellsS]
abbrev Gv:=Gl × Value
def cellsQ (l:List Gv):List Value:=l.flatMap fun x=>[.int .i64 x.1.kind,.int .u8 x.1.byte.toNat,x.2]
theorem cellsQ_append (a b:List Gv):cellsQ (a++b)=cellsQ a++cellsQ b:=by simp[cellsQ]
theorem info48:(Tryz.prog.info? 149).map (fun i=>(i.zero,i.size,i.bytes))=some (some (.agg #[.int .u8 0,.int .u8 0]),2,2):=by kernel_rfl
theorem info40:(Tryz.prog.info? 125).map (fun i=>(i.zero,i.size,i.bytes))=some (some (.agg #[.int .i64 0,.int .u8 0,.slice none 0 0]),3,40):=by kernel_rfl
theorem below_keptGl {w w':World} {B e s n:Nat} {v:Value} {xs:List Value} (h:w.ownsRow B e s v n xs) (hb:Below w.heap.size w w'):w'.ownsRow B e s v n xs:=
 h.kept (row:=none) ⟨hb.os,hb.tape,hb.output,hb.size,fun k hk _=>hb.block k hk⟩ (by cases v.ownBlock <;> simp)
theorem own_neGl {w:World} {B e e' s s' n n':Nat} {v v':Value} {xs xs':List Value} (h:w.ownsRow B e s v n xs) (h':w.ownsRow B e' s' v' n' xs') (hne:e≠e'):v.ownBlock=none∨v.ownBlock≠v'.ownBlock:=by
 rcases h.2 with ⟨rfl,_⟩ | ⟨g,cap,cur,rfl,_,hh,_⟩
 ·exact .inl rfl
 ·right
  rcases h'.2 with ⟨rfl,_⟩ | ⟨g',cap',cur',rfl,_,hh',_⟩
  ·simp[Value.ownBlock]
  ·simp only[Value.ownBlock,ne_eq,Option.some.injEq]
   rintro rfl;rw[hh] at hh';injection hh' with hh'
   injection hh' with _ ht
   exact hne ht
theorem row_form {w:World} {B e s n:Nat} {v:Value} {xs:List Value} (h:w.ownsRow B e s v n xs):(v= .slice none 0 0∧n=0)∨∃ g cap,v= .slice (some ⟨g,0,none⟩) n cap∧n≤cap:=by
 rcases h.2 with ⟨rfl,h0⟩ | ⟨g,cap,cur,rfl,_,_,hc,_⟩
 ·exact .inl ⟨rfl,h0⟩
 ·exact .inr ⟨g,cap,rfl,hc⟩
theorem row_slice {w:World} {B e s n:Nat} {v:Value} {xs:List Value} (h:w.ownsRow B e s v n xs):∃ A c,v= .slice A n c:=by
 rcases row_form h with ⟨rfl,rfl⟩ | ⟨g,cap,rfl,_⟩
 ·exact⟨_,_,rfl⟩
 ·exact⟨_,_,rfl⟩
structure Row1 (T s B:Nat) (w0 w:World) (v:Value) (n:Nat) (xs:List Value):Prop where
 row:w.ownsRow B T s v n xs
 below:Below B w0 w
 size:B≤w.heap.size
theorem Row1.nil (T s:Nat) (w:World):Row1 T s w.heap.size w w (.slice none 0 0) 0 []:=⟨World.ownsRow_nil _ _ _ _,Below.refl _ _,Nat.le_refl _⟩
theorem Row1.alloc {T s B n:Nat} {w0 w:World} {v:Value} {xs:List Value} (h:Row1 T s B w0 w v n xs) (o:Obj):Row1 T s B w0 (w.alloc o) v n xs:=
 ⟨h.row.alloc o,h.below.alloc h.size o,by simp;have:=h.size;omega⟩
theorem Row1.beyond {T s B n:Nat} {w0 w w':World} {v:Value} {xs:List Value} (h:Row1 T s B w0 w v n xs) (hb:Below w.heap.size w w'):Row1 T s B w0 w' v n xs:=
 ⟨below_keptGl h.row hb,h.below.trans (hb.mono h.size),Nat.le_trans h.size hb.size⟩
theorem Row1.grown {T s B n n':Nat} {w0 w w':World} {v v':Value} {xs xs':List Value} (h:Row1 T s B w0 w v n xs) (ho:w'.ownsRow B T s v' n' xs') (hg:w.grownBy w' v.ownBlock):Row1 T s B w0 w' v' n' xs':=
 ⟨ho,h.below.grown hg h.size (fun k hk=>(h.row.lt k hk).1),Nat.le_trans h.size hg.size⟩
abbrev RowSGl (B:Nat) (w0 w:World) (v:Value) (l:List Sp):Prop:=Row1 149 2 B w0 w v l.length (cellsS l)
theorem Row1.span {B:Nat} {w0 w w':World} {v v':Value} {l:List Sp} {p:Sp} (h:RowSGl B w0 w v l) (ho:w'.ownsRow B 149 2 v' (l.length+1) (cellsS l++[.int .u8 p.1.toNat,.int .u8 p.2.toNat])) (hg:w.grownBy w' v.ownBlock):RowSGl B w0 w' v' (l++[p]):=by
 have:=h.grown ho hg;unfold RowSGl;rw[cellsS_append,List.length_append];exact this
theorem new_cellsGl (w:World) (T:TypeId) (cs:Array Value) (j:Nat) (u:Value) (h:cs.toList[j]?=some u):(w.alloc (.cells cs T)).cell? ((⟨w.heap.size,0,none⟩:Addr).add j)=some u:=by
 have hadd:(⟨w.heap.size,0,none⟩:Addr).add j=⟨w.heap.size,j,none⟩:=by unfold Addr.add;split <;> simp_all
 rw[hadd,cell_of_row _ _ j cs T (0,0) (heap_alloc_new w _)];simpa using h
theorem new_cells2 (w:World) (o:Obj) (T:TypeId) (cs:Array Value) (j:Nat) (u:Value) (h:cs.toList[j]?=some u):((w.alloc o).alloc (.cells cs T)).cell? ((⟨w.heap.size+1,0,none⟩:Addr).add j)=some u:=by
 have e:(w.alloc o).heap.size=w.heap.size+1:=by simp
 rw[←e];exact new_cellsGl (w.alloc o) T cs j u h
theorem two_oneGl (a b:Int):∀ u∈[Value.int .u8 a,Value.int .u8 b],u.oneCell'=true:=by
 intro u hu;simp only[List.mem_cons,List.not_mem_nil,or_false] at hu
 rcases hu with rfl | rfl <;> rfl
theorem three_one (a b:Int) (A:Option Addr) (n c:Nat):∀ u∈[Value.int .i64 a,Value.int .u8 b,.slice A n c],u.oneCell'=true:=by
 intro u hu;simp only[List.mem_cons,List.not_mem_nil,or_false] at hu
 rcases hu with rfl | rfl | rfl <;> rfl
structure Pcs (B:Nat) (w0 w:World) (v:Value) (q:List Gv):Prop where
 row:w.ownsRow B 125 3 v q.length (cellsQ q)
 spans:∀ x∈q,w.ownsRow B 149 2 x.2 x.1.spans.length (cellsS x.1.spans)
 below:Below B w0 w
 size:B≤w.heap.size
theorem Pcs.nil (w:World):Pcs w.heap.size w w (.slice none 0 0) []:=⟨World.ownsRow_nil _ _ _ _,by simp,Below.refl _ _,Nat.le_refl _⟩
theorem Pcs.alloc {B:Nat} {w0 w:World} {v:Value} {q:List Gv} (h:Pcs B w0 w v q) (o:Obj):Pcs B w0 (w.alloc o) v q:=
 ⟨h.row.alloc o,fun x hx=>(h.spans x hx).alloc o,h.below.alloc h.size o,by simp;have:=h.size;omega⟩
theorem Pcs.beyond {B:Nat} {w0 w w':World} {v:Value} {q:List Gv} (h:Pcs B w0 w v q) (hb:Below w.heap.size w w'):Pcs B w0 w' v q:=
 ⟨below_keptGl h.row hb,fun x hx=>below_keptGl (h.spans x hx) hb,h.below.trans (hb.mono h.size),Nat.le_trans h.size hb.size⟩
theorem Pcs.piece {B:Nat} {w0 w w':World} {v v' u:Value} {q:List Gv} {g:Gl} (h:Pcs B w0 w v q) (hu:w.ownsRow B 149 2 u g.spans.length (cellsS g.spans))
  (ho:w'.ownsRow B 125 3 v' (q.length+1) (cellsQ q++[.int .i64 g.kind,.int .u8 g.byte.toNat,u])) (hg:w.grownBy w' v.ownBlock):Pcs B w0 w' v' (q++[(g,u)]):=by
 refine⟨by rw[cellsQ_append,List.length_append];exact ho,fun x hx=>?_,h.below.grown hg h.size (fun k hk=>(h.row.lt k hk).1),Nat.le_trans h.size hg.size⟩
 rcases List.mem_append.1 hx with hx | hx
 ·exact(h.spans x hx).kept hg (own_neGl (h.spans x hx) h.row (by decide))
 ·rw[List.mem_singleton] at hx
  subst hx;exact hu.kept hg (own_neGl hu h.row (by decide))
def resI:Res Sp→Value
 | .bad q=> .tuple #[.agg #[.int .u8 0,.int .u8 0],.int .i64 q,.bool false]
 | .ok p q=> .tuple #[.agg #[.int .u8 p.1.toNat,.int .u8 p.2.toNat],.int .i64 q,.bool true]
theorem readbyte_at (set s:ByteArray) (sg:Bs) (i:Int) (k:Nat) (hl:Looks set sg) (hi:i=k) (hk:k≤s.size) (hs:s.size≤1000000) {R:Res UInt8} (hR:rb sg s.data.toList k=R) (w:World):
  Calls Tryz.prog 149 #[.string s,.int .i64 i,.string set] w fun e w'=>e= .returned (resB R)∧w=w':=by
 subst hi hR;exact readbyte_anyGl set s sg k hl hk hs w
theorem readitem_any (s:ByteArray) (k:Nat) (hk:k≤s.size) (hs:s.size≤1000000) (w:World):
  Calls Tryz.prog 160 #[.string s,.int .i64 k] w fun e w'=>e= .returned (resI (item s.data.toList k))∧Below w.heap.size w w':=by
 obtain⟨R,hR⟩:∃ R,R=item s.data.toList k:=⟨_,rfl⟩;rw[←hR];unfold item at hR;have hkl:k≤s.data.toList.length:=by rw[len_dataGl];exact hk
 rcases h1:rb sgI s.data.toList k with q | ⟨lo,q⟩
 ·have KA:Hid (∀ w,Calls Tryz.prog 149 #[.string s,.int .i64 (k:Int),.string ⟨#[93,45,92]⟩] w fun e w'=>e= .returned (.tuple #[.int .u8 0,.int .i64 q,.bool false])∧w=w'):=Lib.hid fun w=>readbyte_at setI s sgI k k looksI rfl hk hs h1 w
  rw[h1] at hR;have HR:=Lib.hid hR;clear hR h1;go_enter Tryz.func160,Tryz.ntmps160;go_wp2_with (go_at_call 149;((with_reducible refine(KA.out _).mono ?_));rintro e w' ⟨rfl,rfl⟩);rw[HR.out];exact bodyPost_ret (v:= .tuple #[.agg #[.int .u8 0,.int .u8 0],.int .i64 q,.bool false]) (by simp[results,Tryz.results160,go_sem]) rfl ⟨rfl,(Below.refl _ _).alloc (Nat.le_refl _) _⟩
 ·have KA:Hid (∀ w,Calls Tryz.prog 149 #[.string s,.int .i64 (k:Int),.string ⟨#[93,45,92]⟩] w fun e w'=>e= .returned (.tuple #[.int .u8 lo.toNat,.int .i64 q,.bool true])∧w=w'):=Lib.hid fun w=>readbyte_at setI s sgI k k looksI rfl hk hs h1 w
  obtain⟨q1,q2⟩:=rb_ok hkl h1;rw[len_dataGl] at q2;rw[h1] at hR;dsimp only at hR;by_cases a:q<s.size
  ·rw[get_at s q a] at hR
   have bq:((q:Int)==(s.size:Int))=false:=by simp;omega
   have bq2:(q==s.size)=false:=by simp;omega
   by_cases c45:s[q]=45
   ·have b45:((s[q].toNat:Int) != 45)=false:=by
     have:=byte_eqGl (n:=45) c45 (by omega);simp only[bne];simpa using this
    rw[if_pos (by rw[c45])] at hR
    rcases h2:rb sgI s.data.toList (q+1) with r | ⟨hi,r⟩
    ·have KB:Hid (∀ w,Calls Tryz.prog 149 #[.string s,.int .i64 ((q:Int)+1),.string ⟨#[93,45,92]⟩] w fun e w'=>e= .returned (.tuple #[.int .u8 0,.int .i64 r,.bool false])∧w=w'):=Lib.hid fun w=>readbyte_at setI s sgI ((q:Int)+1) (q+1) looksI rfl (by omega) hs h2 w
     rw[h2] at hR;have HR:=Lib.hid hR;clear hR h1 h2 c45 hkl;go_enter Tryz.func160,Tryz.ntmps160;go_wp2_with (first | (go_at_call 149;((with_reducible refine(KA.out _).mono ?_));rintro e w' ⟨rfl,rfl⟩) | (go_at_call 149;((with_reducible refine(KB.out _).mono ?_));rintro e w' ⟨rfl,rfl⟩));rw[HR.out];exact bodyPost_ret (v:= .tuple #[.agg #[.int .u8 0,.int .u8 0],.int .i64 r,.bool false]) (by simp[results,Tryz.results160,go_sem]) rfl ⟨rfl,(Below.refl _ _).alloc (Nat.le_refl _) _⟩
    ·have KB:Hid (∀ w,Calls Tryz.prog 149 #[.string s,.int .i64 ((q:Int)+1),.string ⟨#[93,45,92]⟩] w fun e w'=>e= .returned (.tuple #[.int .u8 hi.toNat,.int .i64 r,.bool true])∧w=w'):=Lib.hid fun w=>readbyte_at setI s sgI ((q:Int)+1) (q+1) looksI rfl (by omega) hs h2 w
     obtain⟨r1,r2⟩:=rb_ok (by rw[len_dataGl];omega) h2;rw[len_dataGl] at r2;rw[h2] at hR;dsimp only at hR;by_cases hlt:(hi.toNat:Int)<(lo.toNat:Int)
     ·rw[if_pos hlt] at hR
      have hr0:((r - 1:Nat):Int)=(r:Int) - 1:=by omega
      have HR:Hid (R= .bad (r - 1)):=Lib.hid hR;have H0:=Lib.hid hr0;obtain⟨x,hx⟩:∃ x:Int,x=(lo.toNat:Int):=⟨_,rfl⟩;obtain⟨y,hy⟩:∃ y:Int,y=(hi.toNat:Int):=⟨_,rfl⟩;rw[←hx] at KA hlt;rw[←hy] at KB hlt;clear hR h1 h2 c45 hkl hr0 hx hy;go_enter Tryz.func160,Tryz.ntmps160;go_wp2_with (first | (go_at_call 149;((with_reducible refine(KA.out _).mono ?_));rintro e w' ⟨rfl,rfl⟩) | (go_at_call 149;((with_reducible refine(KB.out _).mono ?_));rintro e w' ⟨rfl,rfl⟩));rw[HR.out];exact bodyPost_ret (v:= .tuple #[.agg #[.int .u8 0,.int .u8 0],.int .i64 ((r:Int) - 1),.bool false]) (by simp[results,Tryz.results160,go_sem]) rfl ⟨by rw[←H0.out];rfl,(Below.refl _ _).alloc (Nat.le_refl _) _⟩
     ·rw[if_neg hlt] at hR
      have HR:Hid (R= .ok (lo,hi) r):=Lib.hid hR;obtain⟨x,hx⟩:∃ x:Int,x=(lo.toNat:Int):=⟨_,rfl⟩;obtain⟨y,hy⟩:∃ y:Int,y=(hi.toNat:Int):=⟨_,rfl⟩;have HX:=Lib.hid hx;have HY:=Lib.hid hy;rw[←hx] at KA hlt;rw[←hy] at KB hlt;clear hR h1 h2 c45 hkl hx hy;go_enter Tryz.func160,Tryz.ntmps160;go_wp2_with (first | (go_at_call 149;((with_reducible refine(KA.out _).mono ?_));rintro e w' ⟨rfl,rfl⟩) | (go_at_call 149;((with_reducible refine(KB.out _).mono ?_));rintro e w' ⟨rfl,rfl⟩));rw[HR.out];exact bodyPost_ret (v:= .tuple #[.agg #[.int .u8 x,.int .u8 y],.int .i64 r,.bool true]) (by simp[results,Tryz.results160,go_sem]) rfl ⟨by rw[HX.out,HY.out];rfl,(Below.refl _ _).alloc (Nat.le_refl _) _⟩
   ·have b45:((s[q].toNat:Int) != 45)=true:=by
     have:=byte_neGl (n:=45) c45 (by omega);simp only[bne];simpa using this
    rw[if_neg (by simpa using c45)] at hR;have HR:=Lib.hid hR;clear hR h1 c45 hkl;go_enter Tryz.func160,Tryz.ntmps160;go_wp2_with (go_at_call 149;((with_reducible refine(KA.out _).mono ?_));rintro e w' ⟨rfl,rfl⟩);rw[HR.out];exact bodyPost_ret (v:= .tuple #[.agg #[.int .u8 lo.toNat,.int .u8 lo.toNat],.int .i64 q,.bool true]) (by simp[results,Tryz.results160,go_sem]) rfl ⟨rfl,(Below.refl _ _).alloc (Nat.le_refl _) _⟩
  ·rw[get_end s q a] at hR
   obtain rfl:q=s.size:=by omega
   rw[if_neg (by simp)] at hR;have HR:=Lib.hid hR;clear hR h1 hkl;go_enter Tryz.func160,Tryz.ntmps160;go_wp2_with (go_at_call 149;((with_reducible refine(KA.out _).mono ?_));rintro e w' ⟨rfl,rfl⟩);rw[HR.out];exact bodyPost_ret (v:= .tuple #[.agg #[.int .u8 lo.toNat,.int .u8 lo.toNat],.int .i64 s.size,.bool true]) (by simp[results,Tryz.results160,go_sem]) rfl ⟨rfl,(Below.refl _ _).alloc (Nat.le_refl _) _⟩
def posS (R:Res (List Sp)):Nat:=match R with | .bad q=>q | .ok _ q=>q
def okS' (R:Res (List Sp)):Bool:=match R with | .bad _=>false | .ok _ _=>true
def lstS (R:Res (List Sp)):List Sp:=match R with | .bad _=>[] | .ok l _=>l
def PostS (w0:World) (R:Res (List Sp)) (e:Ending) (w':World):Prop:=
 ∃ v,e= .returned (.tuple #[v,.int .i64 (posS R),.bool (okS' R)])∧RowSGl w0.heap.size w0 w' v (lstS R)
def LoopS (s:ByteArray) (w0:World) (R:Res (List Sp)) (a v:Value) (w:World):Prop:=
 ∃ (k:Nat) (acc:List Sp),k≤s.size∧a= .int .i64 k∧goS s.data.toList k acc=R∧RowSGl w0.heap.size w0 w v acc∧acc.length≤k
theorem readitems_any (s:ByteArray) (k0:Nat) (hk0:k0≤s.size) (hs:s.size≤1000000) (w:World):
  Calls Tryz.prog 148 #[.string s,.int .i64 k0] w (PostS w (goS s.data.toList k0 [])):=by
 obtain⟨R,hR⟩:∃ R,R=goS s.data.toList k0 []:=⟨_,rfl⟩;rw[←hR];have HR:=Lib.hid hR.symm;obtain⟨i0,hi0,hz0,hz1,hz2⟩:=info_parts info48;clear hR;go_enter Tryz.func148,Tryz.ntmps148;go_wp2
 go_loopw [1,7] (fun a v wr=>LoopS s w R a v wr) (fun a _ _=>s.size - (intOf a).toNat)
 case atStart=>exact⟨k0,[],hk0,rfl,HR.out,Row1.nil 149 2 w,by simp⟩
 case round=>
  obtain⟨k,acc,hk,rfl,hg,hT,hacc⟩:=hrel;have HG:=Lib.hid hg;have HT:=Lib.hid hT;clear hg hT
  rcases row_form HT.out.row with ⟨rfl,h0⟩ | ⟨g,cap,rfl,hcap⟩
  ·have hno:Hid (¬ (acc≠[]∧s.data.toList[k]?=some 93)):=Lib.hid (by rintro⟨h,_⟩;exact h (List.eq_nil_of_length_eq_zero h0))
   clear h0
   rcases hi:item s.data.toList k with q | ⟨sp,q⟩
   ·have HX:Hid (R= .bad q):=Lib.hid (by rw[←HG.out,goS_bad hno.out hi])
    have K36:Hid (∀ w,Calls Tryz.prog 160 #[.string s,.int .i64 (k:Int)] w fun e w'=>e= .returned (.tuple #[.agg #[.int .u8 0,.int .u8 0],.int .i64 q,.bool false])∧Below w.heap.size w w'):=Lib.hid fun w=>by
     have:=readitem_any s k hk hs w;rw[hi] at this;exact this
    clear hi;go_wp2_with (go_at_call 160;((with_reducible refine(K36.out _).mono ?_));rintro e w1 ⟨rfl,hb1⟩)
    go_ret3
    rw[HX.out];exact⟨_,rfl,⟨World.ownsRow_nil _ _ _ _,((HT.out.beyond hb1).alloc _).below,((HT.out.beyond hb1).alloc _).size⟩⟩
   ·obtain⟨q1,q2⟩:=item_ok (by rw[len_dataGl];exact hk) hi
    rw[len_dataGl] at q2;have HX:Hid (goS s.data.toList q (acc++[sp])=R):=Lib.hid (by rw[←HG.out,goS_ok hno.out (by rw[len_dataGl];exact hk) hi])
    have K36:Hid (∀ w,Calls Tryz.prog 160 #[.string s,.int .i64 (k:Int)] w fun e w'=>e= .returned (.tuple #[.agg #[.int .u8 sp.1.toNat,.int .u8 sp.2.toNat],.int .i64 q,.bool true])∧Below w.heap.size w w'):=Lib.hid fun w=>by
     have:=readitem_any s k hk hs w;rw[hi] at this;exact this
    clear hi;go_wp2_with (first | (go_at_call 160;((with_reducible refine(K36.out _).mono ?_));rintro e w1 ⟨rfl,hb1⟩) | (at_builtin;refine wpList_append_own _ rfl (.tmp 36) (.tmp 38) 123 rfl w.heap.size 149 i0 (.agg #[.int .u8 0,.int .u8 0]) 2 2 Tryz.underlying123 hi0 hz0 hz1 hz2 rfl (by decide) _ _ _ rfl (((HT.out.beyond hb1).alloc _).alloc _).row ⟨w1.heap.size+1,0,none⟩ 1 1 [.int .u8 sp.1.toNat,.int .u8 sp.2.toNat] rfl rfl (fun j u hu=>new_cells2 w1 (.cells #[.int .u8 sp.1.toNat,.int .u8 sp.2.toNat] 149) 149 #[.int .u8 sp.1.toNat,.int .u8 sp.2.toNat] j u hu) (two_oneGl _ _) (by unfold maxLen;omega) (by omega) (((HT.out.beyond hb1).alloc _).alloc _).size ?_;intro v2 w3 hown' hgrow _))
    go_roundw
    case rel=>exact⟨q,acc++[sp],q2,rfl,HX.out,(((HT.out.beyond hb1).alloc _).alloc _).span (p:=sp) hown' hgrow,by rw[List.length_append];simp;omega⟩
    case measure=>simp[intOf];omega
  ·obtain⟨m,hm⟩:∃ m,m=acc.length:=⟨_,rfl⟩
   have hacc2:=hacc;rw[←hm] at hacc hcap HT ⊢;have HM:=Lib.hid hm;clear hm;by_cases h0:m=0
   ·have hno:Hid (¬ (acc≠[]∧s.data.toList[k]?=some 93)):=Lib.hid (by rintro⟨h,_⟩;exact h (List.eq_nil_of_length_eq_zero (by rw[←HM.out,h0])))
    have b0:((m:Int)==0)=true:=by simp;omega
    have b02:(m==0)=true:=by simp;omega
    clear h0
    rcases hi:item s.data.toList k with q | ⟨sp,q⟩
    ·have HX:Hid (R= .bad q):=Lib.hid (by rw[←HG.out,goS_bad hno.out hi])
     have K36:Hid (∀ w,Calls Tryz.prog 160 #[.string s,.int .i64 (k:Int)] w fun e w'=>e= .returned (.tuple #[.agg #[.int .u8 0,.int .u8 0],.int .i64 q,.bool false])∧Below w.heap.size w w'):=Lib.hid fun w=>by
      have:=readitem_any s k hk hs w;rw[hi] at this;exact this
     clear hi;go_wp2_with (go_at_call 160;((with_reducible refine(K36.out _).mono ?_));rintro e w1 ⟨rfl,hb1⟩)
     go_ret3
     rw[HX.out];exact⟨_,rfl,⟨World.ownsRow_nil _ _ _ _,((HT.out.beyond hb1).alloc _).below,((HT.out.beyond hb1).alloc _).size⟩⟩
    ·obtain⟨q1,q2⟩:=item_ok (by rw[len_dataGl];exact hk) hi
     rw[len_dataGl] at q2;have HX:Hid (goS s.data.toList q (acc++[sp])=R):=Lib.hid (by rw[←HG.out,goS_ok hno.out (by rw[len_dataGl];exact hk) hi])
     have K36:Hid (∀ w,Calls Tryz.prog 160 #[.string s,.int .i64 (k:Int)] w fun e w'=>e= .returned (.tuple #[.agg #[.int .u8 sp.1.toNat,.int .u8 sp.2.toNat],.int .i64 q,.bool true])∧Below w.heap.size w w'):=Lib.hid fun w=>by
      have:=readitem_any s k hk hs w;rw[hi] at this;exact this
     clear hi;go_wp2_with (first | (go_at_call 160;((with_reducible refine(K36.out _).mono ?_));rintro e w1 ⟨rfl,hb1⟩) | (at_builtin;refine wpList_append_own _ rfl (.tmp 36) (.tmp 38) 123 rfl w.heap.size 149 i0 (.agg #[.int .u8 0,.int .u8 0]) 2 2 Tryz.underlying123 hi0 hz0 hz1 hz2 rfl (by decide) _ _ _ rfl (((HT.out.beyond hb1).alloc _).alloc _).row ⟨w1.heap.size+1,0,none⟩ 1 1 [.int .u8 sp.1.toNat,.int .u8 sp.2.toNat] rfl rfl (fun j u hu=>new_cells2 w1 (.cells #[.int .u8 sp.1.toNat,.int .u8 sp.2.toNat] 149) 149 #[.int .u8 sp.1.toNat,.int .u8 sp.2.toNat] j u hu) (two_oneGl _ _) (by unfold maxLen;omega) (by omega) (((HT.out.beyond hb1).alloc _).alloc _).size ?_;intro v2 w3 hown' hgrow _))
     go_roundw
     case rel=>exact⟨q,acc++[sp],q2,rfl,HX.out,(((HT.out.beyond hb1).alloc _).alloc _).span (p:=sp) hown' hgrow,by rw[List.length_append];simp;omega⟩
     case measure=>simp[intOf];omega
   ·have b0:((m:Int)==0)=false:=by simp;omega
    have b02:(m==0)=false:=by simp;omega
    have hne:acc≠[]:=by rintro rfl;exact h0 HM.out
    by_cases a:k<s.size
    ·have bk:((k:Int)==(s.size:Int))=false:=by simp;omega
     have bk2:(k==s.size)=false:=by simp;omega
     by_cases c93:s[k]=93
     ·have b93:((s[k].toNat:Int) != 93)=false:=by
       have:=byte_eqGl (n:=93) c93 (by omega);simp only[bne];simpa using this
      have HX:Hid (R= .ok acc (k+1)):=Lib.hid (by rw[←HG.out,goS_end hne (by rw[get_at s k a,c93])]);clear c93 h0 hne;go_wp2
      go_ret3
      rw[HX.out];have:=HT.out;rw[HM.out] at this ⊢;exact⟨_,rfl,this⟩
     ·have b93:((s[k].toNat:Int) != 93)=true:=by
       have:=byte_neGl (n:=93) c93 (by omega);simp only[bne];simpa using this
      have hno:Hid (¬ (acc≠[]∧s.data.toList[k]?=some 93)):=Lib.hid (by rintro⟨_,h⟩;rw[get_at s k a] at h;injection h with h;exact c93 h);clear c93 h0 hne
      rcases hi:item s.data.toList k with q | ⟨sp,q⟩
      ·have HX:Hid (R= .bad q):=Lib.hid (by rw[←HG.out,goS_bad hno.out hi])
       have K36:Hid (∀ w,Calls Tryz.prog 160 #[.string s,.int .i64 (k:Int)] w fun e w'=>e= .returned (.tuple #[.agg #[.int .u8 0,.int .u8 0],.int .i64 q,.bool false])∧Below w.heap.size w w'):=Lib.hid fun w=>by
        have:=readitem_any s k hk hs w;rw[hi] at this;exact this
       clear hi;go_wp2_with (go_at_call 160;((with_reducible refine(K36.out _).mono ?_));rintro e w1 ⟨rfl,hb1⟩)
       go_ret3
       rw[HX.out];exact⟨_,rfl,⟨World.ownsRow_nil _ _ _ _,((HT.out.beyond hb1).alloc _).below,((HT.out.beyond hb1).alloc _).size⟩⟩
      ·obtain⟨q1,q2⟩:=item_ok (by rw[len_dataGl];exact hk) hi
       rw[len_dataGl] at q2;have HX:Hid (goS s.data.toList q (acc++[sp])=R):=Lib.hid (by rw[←HG.out,goS_ok hno.out (by rw[len_dataGl];exact hk) hi])
       have K36:Hid (∀ w,Calls Tryz.prog 160 #[.string s,.int .i64 (k:Int)] w fun e w'=>e= .returned (.tuple #[.agg #[.int .u8 sp.1.toNat,.int .u8 sp.2.toNat],.int .i64 q,.bool true])∧Below w.heap.size w w'):=Lib.hid fun w=>by
        have:=readitem_any s k hk hs w;rw[hi] at this;exact this
       clear hi;go_wp2_with (first | (go_at_call 160;((with_reducible refine(K36.out _).mono ?_));rintro e w1 ⟨rfl,hb1⟩) | (at_builtin;refine wpList_append_own _ rfl (.tmp 36) (.tmp 38) 123 rfl w.heap.size 149 i0 (.agg #[.int .u8 0,.int .u8 0]) 2 2 Tryz.underlying123 hi0 hz0 hz1 hz2 rfl (by decide) _ _ _ rfl (((HT.out.beyond hb1).alloc _).alloc _).row ⟨w1.heap.size+1,0,none⟩ 1 1 [.int .u8 sp.1.toNat,.int .u8 sp.2.toNat] rfl rfl (fun j u hu=>new_cells2 w1 (.cells #[.int .u8 sp.1.toNat,.int .u8 sp.2.toNat] 149) 149 #[.int .u8 sp.1.toNat,.int .u8 sp.2.toNat] j u hu) (two_oneGl _ _) (by unfold maxLen;omega) (by omega) (((HT.out.beyond hb1).alloc _).alloc _).size ?_;intro v2 w3 hown' hgrow _))
       go_roundw
       case rel=>exact⟨q,acc++[sp],q2,rfl,HX.out,(((HT.out.beyond hb1).alloc _).alloc _).span (p:=sp) hown' hgrow,by rw[List.length_append];simp;omega⟩
       case measure=>simp[intOf];omega
    ·have hno:Hid (¬ (acc≠[]∧s.data.toList[k]?=some 93)):=Lib.hid (by rintro⟨_,h⟩;rw[get_end s k a] at h;cases h)
     obtain rfl:k=s.size:=by omega
     clear h0 hne
     rcases hi:item s.data.toList s.size with q | ⟨sp,q⟩
     ·have HX:Hid (R= .bad q):=Lib.hid (by rw[←HG.out,goS_bad hno.out hi])
      have K36:Hid (∀ w,Calls Tryz.prog 160 #[.string s,.int .i64 (s.size:Int)] w fun e w'=>e= .returned (.tuple #[.agg #[.int .u8 0,.int .u8 0],.int .i64 q,.bool false])∧Below w.heap.size w w'):=Lib.hid fun w=>by
       have:=readitem_any s s.size hk hs w;rw[hi] at this;exact this
      clear hi;go_wp2_with (go_at_call 160;((with_reducible refine(K36.out _).mono ?_));rintro e w1 ⟨rfl,hb1⟩)
      go_ret3
      rw[HX.out];exact⟨_,rfl,⟨World.ownsRow_nil _ _ _ _,((HT.out.beyond hb1).alloc _).below,((HT.out.beyond hb1).alloc _).size⟩⟩
     ·exfalso
      obtain⟨q1,q2⟩:=item_ok (by rw[len_dataGl];exact hk) hi;rw[len_dataGl] at q2;omega
end Go.Proofs.YtdobinjbejagcaaGreatDoor
