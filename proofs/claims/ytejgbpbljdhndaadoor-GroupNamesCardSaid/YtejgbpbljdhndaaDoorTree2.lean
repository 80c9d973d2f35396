import Derived.Test.YtejgbpbljdhndaaDoorRows
import Derived.WalkKit
import Derived.WalkSpells
import Derived.WalkLawsBesides
import Derived.Lib.Hide
import Derived.Outline
import Derived.Test.YtejgbpbljdhndaaDoorV2
import Derived.Test.YtejgbpbljdhndaaDoorShelf
import Derived.Laws.IdiomStrings
import Derived.Laws.OwnMore
import Derived.Lib.SmallJoins
import Derived.Lib.UnsafeStr
import Derived.Deep.Onto
import Derived.Deep.QuietTactic
import Derived.Deep.Slices
import Derived.RegionTactic
import Derived.BigQuiet
namespace Go.Proofs.YtejgbpbljdhndaaDoor
open Go Go.RowKit
set_option maxRecDepth 100000
set_option maxHeartbeats 1000000
theorem y7b {k:IntKind} {a b:Int} (h:a=b):Ending.returned (.int k a)= .returned (.int k b):=by rw[h]
theorem z0n {a b:Bool} (h:a=b):Ending.returned (.bool a)= .returned (.bool b):=by rw[h]
theorem z0o (s:ByteArray):s.data.toList.length=s.size:=Array.length_toList
theorem y5r (s:ByteArray) (k:Nat) (hk:k<s.size):s.data.toList.drop k=s[k]::s.data.toList.drop (k+1):=by
 rw[List.drop_eq_getElem_cons (i:=k) (l:=s.data.toList) (by rw[z0o];exact hk)];simp;rfl
theorem y25 (s:ByteArray) (k:Nat) (hk:¬ k<s.size):s.data.toList.drop k=[]:=by
 rw[List.drop_eq_nil_iff,z0o];omega
theorem z2g (s:ByteArray) (k:Nat) (hk:k<s.size):s.data.toList[k]?=some s[k]:=by
 rw[List.getElem?_eq_getElem (by rw[z0o];exact hk)];simp;rfl
theorem z3h (s:ByteArray) (k:Nat) (hk:¬ k<s.size):s.data.toList[k]?=none:=by
 rw[List.getElem?_eq_none];rw[z0o];omega
theorem z24 {c:UInt8} {n:Nat} (h:c=UInt8.ofNat n) (hn:n<256):((c.toNat:Int)==(n:Int))=true:=by
 subst h;simp[Nat.mod_eq_of_lt hn]
theorem z2h {c:UInt8} {n:Nat} (h:c≠UInt8.ofNat n) (_:n<256):((c.toNat:Int)==(n:Int))=false:=by
 rw[Bool.eq_false_iff];intro he;apply h;have h1:c.toNat=n:=by have:=eq_of_beq he;omega
 rw[←h1];simp
def Looks (set:ByteArray) (sg:Bs):Prop:=∀ c:UInt8,(0≤Lib.indexByte set.data.toList c ↔ c∈sg)∧ -1≤Lib.indexByte set.data.toList c∧Lib.indexByte set.data.toList c≤255
theorem x3x (set:ByteArray) (c:UInt8) (v:Int) (h:Lib.indexByte set.data.toList c=v) (w:World):
  Calls Tryd.prog 81 #[.string set,.int .u8 (c.toNat:Nat)] w fun e w'=>e= .returned (.int .i64 v)∧w=w':=
 (Tryd.strings_IndexByte set (c.toNat:Nat) w).mono fun e w' ⟨he,hw⟩=>⟨by rw[he,←h];simp,hw.symm⟩
def resB:Res UInt8→Value
 | .bad q=> .tuple #[.int .u8 0,.int .i64 q,.bool false]
 | .ok c q=> .tuple #[.int .u8 c.toNat,.int .i64 q,.bool true]
def resR (k:Nat):Res UInt8→Value
 | .bad q=> .tuple #[.int .u8 0,.int .i64 (-1),.int .i64 q]
 | .ok c q=> .tuple #[.int .u8 c.toNat,.int .i64 ((q:Int) - k),.int .i64 0]
theorem z35 {c:UInt8} {q k:Nat} {n:Int} (h:(q:Int) - k=n):resR k (.ok c q)= .tuple #[.int .u8 c.toNat,.int .i64 n,.int .i64 0]:=by simp only[resR,h]
theorem y4m (s:ByteArray) (k:Nat) (hk:k≤s.size) (hs:s.size≤1000000) (w:World):
  Calls Tryd.prog 87 #[.string s,.int .i64 k] w fun e w'=>e= .returned (resR k (rb sgI s.data.toList k))∧w=w':=by
 obtain⟨R,hR⟩:∃ R,R=rb sgI s.data.toList k:=⟨_,rfl⟩;rw[←hR];unfold rb at hR;by_cases a:k<s.size
 ·rw[y5r s k a] at hR
  dsimp only at hR;by_cases c92:s[k]=92
  ·have b92:((s[k].toNat:Int) != 92)=false:=by
    have:=z24 (n:=92) c92 (by omega);simp only[bne];simpa using this
   have b93:((s[k].toNat:Int)==93)=false:=z2h (n:=93) (by rw[c92];decide) (by omega);have b45:((s[k].toNat:Int)==45)=false:=z2h (n:=45) (by rw[c92];decide) (by omega);rw[if_pos c92] at hR;by_cases a1:k+1<s.size
   ·rw[y5r s (k+1) a1] at hR
    have HR:=Lib.hid hR;clear hR c92;go_enter Tryd.func87,Tryd.ntmps87;go_wp2
    go_ret3
    rw[HR.out,z35 (n:=2) (by omega)];exact⟨rfl,rfl⟩
   ·rw[y25 s (k+1) a1] at hR
    have HR:=Lib.hid hR;clear hR c92;go_enter Tryd.func87,Tryd.ntmps87;go_wp2
    go_ret3
    rw[HR.out];exact⟨rfl,rfl⟩
  ·have b92:((s[k].toNat:Int) != 92)=true:=by
    have:=z2h (n:=92) c92 (by omega);simp only[bne];simpa using this
   rw[if_neg c92] at hR;by_cases c93:s[k]=93
   ·have b93:((s[k].toNat:Int)==93)=true:=z24 (n:=93) c93 (by omega)
    rw[if_pos (by rw[c93];decide)] at hR;have HR:=Lib.hid hR;clear hR c92 c93;go_enter Tryd.func87,Tryd.ntmps87;go_wp2
    go_ret3
    rw[HR.out];exact⟨rfl,rfl⟩
   ·have b93:((s[k].toNat:Int)==93)=false:=z2h (n:=93) c93 (by omega)
    by_cases c45:s[k]=45
    ·have b45:((s[k].toNat:Int)==45)=true:=z24 (n:=45) c45 (by omega)
     rw[if_pos (by rw[c45];decide)] at hR;have HR:=Lib.hid hR;clear hR c92 c93 c45;go_enter Tryd.func87,Tryd.ntmps87;go_wp2
     go_ret3
     rw[HR.out];exact⟨rfl,rfl⟩
    ·have b45:((s[k].toNat:Int)==45)=false:=z2h (n:=45) c45 (by omega)
     rw[if_neg (by simp[sgI,c92,c93,c45])] at hR;have HR:=Lib.hid hR;clear hR c92 c93 c45;go_enter Tryd.func87,Tryd.ntmps87;go_wp2
     go_ret3
     rw[HR.out,z35 (n:=1) (by omega)];exact⟨rfl,rfl⟩
 ·rw[y25 s k a] at hR
  have HR:=Lib.hid hR;obtain rfl:k=s.size:=by omega
  clear hR;go_enter Tryd.func87,Tryd.ntmps87;go_wp2
  go_ret3
  rw[HR.out];exact⟨rfl,rfl⟩
def cellsS (l:List Sp):List Value:=l.flatMap fun p=>[.int .u8 p.1.toNat,.int .u8 p.2.toNat]
theorem z4x (l:List Sp):(cellsS l).length=l.length * 2:=by
 induction l with
 | nil=>rfl
 | cons p r ih=>unfold cellsS at ih ⊢;rw[List.flatMap_cons,List.length_append,ih];simp;omega
theorem z3j (a b:List Sp):cellsS (a++b)=cellsS a++cellsS b:=by simp[cellsS]
theorem z6y (p:Sp) (r:List Sp):cellsS (p::r)= .int .u8 p.1.toNat:: .int .u8 p.2.toNat::cellsS r:=rfl
abbrev byteCells (t:Bs):List Value:=Lib.byteCells t
theorem x0l:(Tryd.prog.info? 138).map (fun i=>(i.zero,i.size,i.bytes))=some (some (.agg #[.int .u8 0,.int .u8 0]),2,2):=by kernel_rfl
theorem info5:(Tryd.prog.info? 5).map (fun i=>(i.zero,i.size,i.bytes))=some (some (.int .u8 0),1,1):=by kernel_rfl
theorem z1x {w w':World} {B e s n:Nat} {v:Value} {xs:List Value} (h:w.ownsRow B e s v n xs) (hb:Below w.heap.size w w'):w'.ownsRow B e s v n xs:=
 h.kept (row:=none) ⟨hb.os,hb.tape,hb.output,hb.size,fun k hk _=>hb.block k hk⟩ (by cases v.ownBlock <;> simp)
theorem z3r {w:World} {B e s n:Nat} {v:Value} {xs:List Value} (h:w.ownsRow B e s v n xs):(v= .slice none 0 0∧n=0)∨∃ g cap,v= .slice (some ⟨g,0,none⟩) n cap∧n≤cap:=by
 rcases h.2 with ⟨rfl,h0⟩ | ⟨g,cap,cur,rfl,_,_,hc,_⟩
 ·exact .inl ⟨rfl,h0⟩
 ·exact .inr ⟨g,cap,rfl,hc⟩
theorem z1k {w:World} {B e s n:Nat} {v:Value} {xs:List Value} (h:w.ownsRow B e s v n xs):∃ A c,v= .slice A n c:=by
 rcases z3r h with ⟨rfl,rfl⟩ | ⟨g,cap,rfl,_⟩
 ·exact⟨_,_,rfl⟩
 ·exact⟨_,_,rfl⟩
structure Row1 (T s B:Nat) (w0 w:World) (v:Value) (n:Nat) (xs:List Value):Prop where
 row:w.ownsRow B T s v n xs
 below:Below B w0 w
 size:B≤w.heap.size
theorem Row1.nil (T s:Nat) (w:World):Row1 T s w.heap.size w w (.slice none 0 0) 0 []:=⟨World.ownsRow_nil _ _ _ _,Below.refl _ _,Nat.le_refl _⟩
theorem Row1.alloc {T s B n:Nat} {w0 w:World} {v:Value} {xs:List Value} (h:Row1 T s B w0 w v n xs) (o:Obj):Row1 T s B w0 (w.alloc o) v n xs:=
 ⟨h.row.alloc o,h.below.alloc h.size o,by simp;have:=h.size;omega⟩
theorem Row1.drew {T s B n:Nat} {w0 w:World} {v:Value} {xs:List Value} (h:Row1 T s B w0 w v n xs):Row1 T s B w0 w.drew v n xs:=⟨h.row,h.below.drew,h.size⟩
theorem Row1.beyond {T s B n:Nat} {w0 w w':World} {v:Value} {xs:List Value} (h:Row1 T s B w0 w v n xs) (hb:Below w.heap.size w w'):Row1 T s B w0 w' v n xs:=
 ⟨z1x h.row hb,h.below.trans (hb.mono h.size),Nat.le_trans h.size hb.size⟩
theorem Row1.grown {T s B n n':Nat} {w0 w w':World} {v v':Value} {xs xs':List Value} (h:Row1 T s B w0 w v n xs) (ho:w'.ownsRow B T s v' n' xs') (hg:w.grownBy w' v.ownBlock):Row1 T s B w0 w' v' n' xs':=
 ⟨ho,h.below.grown hg h.size (fun k hk=>(h.row.lt k hk).1),Nat.le_trans h.size hg.size⟩
abbrev RowS (B:Nat) (w0 w:World) (v:Value) (l:List Sp):Prop:=Row1 138 2 B w0 w v l.length (cellsS l)
theorem Row1.span {B:Nat} {w0 w w':World} {v v':Value} {l:List Sp} {p:Sp} (h:RowS B w0 w v l) (ho:w'.ownsRow B 138 2 v' (l.length+1) (cellsS l++[.int .u8 p.1.toNat,.int .u8 p.2.toNat])) (hg:w.grownBy w' v.ownBlock):RowS B w0 w' v' (l++[p]):=by
 have:=h.grown ho hg;unfold RowS;rw[z3j,List.length_append];exact this
theorem z0l (w:World) (T:TypeId) (cs:Array Value) (j:Nat) (u:Value) (h:cs.toList[j]?=some u):(w.alloc (.cells cs T)).cell? ((⟨w.heap.size,0,none⟩:Addr).add j)=some u:=by
 have hadd:(⟨w.heap.size,0,none⟩:Addr).add j=⟨w.heap.size,j,none⟩:=by unfold Addr.add;split <;> simp_all
 rw[hadd,cell_of_row _ _ j cs T (0,0) (heap_alloc_new w _)];simpa using h
theorem z5h (w:World) (o:Obj) (T:TypeId) (cs:Array Value) (j:Nat) (u:Value) (h:cs.toList[j]?=some u):((w.alloc o).alloc (.cells cs T)).cell? ((⟨w.heap.size+1,0,none⟩:Addr).add j)=some u:=by
 have e:(w.alloc o).heap.size=w.heap.size+1:=by simp
 rw[←e];exact z0l (w.alloc o) T cs j u h
theorem z2s (a b:Int):∀ u∈[Value.int .u8 a,Value.int .u8 b],u.oneCell'=true:=by
 intro u hu;simp only[List.mem_cons,List.not_mem_nil,or_false] at hu
 rcases hu with rfl | rfl <;> rfl
theorem z1m (u:Bs):∀ x∈byteCells u,x.oneCell'=true:=by
 intro x hx;simp only[byteCells,Lib.byteCells,List.mem_map] at hx;obtain⟨b,_,rfl⟩:=hx;rfl
theorem z0j (a:Addr) (n:Nat):(a.add n).block=a.block:=by unfold Addr.add;split <;> rfl
theorem z23 (ad:Addr) (m i:Nat) (h:0<i):(⟨(ad.add m).block,(ad.add m).off+i,none⟩:Addr)=ad.add (m+i):=by
 unfold Addr.add;by_cases hk:m=0
 ·subst hk
  have:¬ i=0:=by omega
  simp[this]
 ·have:¬ m+i=0:=by omega
  simp[hk,Nat.add_assoc]
def valR (r:Re) (A:Option Addr) (c:Nat):Value:=match r with
 | .mk k S ks lo hi n=> .agg #[.int .i64 k,.int .u64 S.1.toNat,.int .u64 S.2.1.toNat,.int .u64 S.2.2.1.toNat,.int .u64 S.2.2.2.toNat,.slice A ks.length c,.int .i64 lo,.int .i64 hi,.int .i64 n]
def At9 (w:World) (a:Addr) (r:Re) (A:Option Addr) (c:Nat):Prop:=match r with
 | .mk k S ks lo hi n=>
   w.cell? a=some (.int .i64 k)∧w.cell? ⟨a.block,a.off+1,none⟩=some (.int .u64 S.1.toNat)∧w.cell? ⟨a.block,a.off+2,none⟩=some (.int .u64 S.2.1.toNat)∧
   w.cell? ⟨a.block,a.off+3,none⟩=some (.int .u64 S.2.2.1.toNat)∧w.cell? ⟨a.block,a.off+4,none⟩=some (.int .u64 S.2.2.2.toNat)∧
   w.cell? ⟨a.block,a.off+5,none⟩=some (.slice A ks.length c)∧w.cell? ⟨a.block,a.off+6,none⟩=some (.int .i64 lo)∧
   w.cell? ⟨a.block,a.off+7,none⟩=some (.int .i64 hi)∧w.cell? ⟨a.block,a.off+8,none⟩=some (.int .i64 n)
mutual
def Kids (P:Nat→Prop) (w:World) (A:Option Addr):Re→Prop
 | .mk _ _ ks _ _ _=>ks=[]∨∃ ad,A=some ad∧P ad.block∧KidsL P w ad 0 ks
def KidsL (P:Nat→Prop) (w:World) (ad:Addr) (i:Nat):List Re→Prop
 | []=>True
 | r::rs=>(∃ A c,At9 w (ad.add (i * 9)) r A c∧Kids P w A r)∧KidsL P w ad (i+1) rs
end
theorem y28 {P:Nat→Prop} {w:World} {ad:Addr}:∀ {l:List Re} {i k:Nat} {r:Re},KidsL P w ad i l→l[k]?=some r→∃ A c,At9 w (ad.add ((i+k) * 9)) r A c∧Kids P w A r
 | [],i,k,r,_,hk=>by simp at hk
 | x::l,i,0,r,h,hk=>by
   injection hk with hk;subst hk
   rw[KidsL] at h;exact h.1
 | x::l,i,k+1,r,h,hk=>by
   rw[KidsL] at h;have:=y28 h.2 (k:=k) (r:=r) (by simpa using hk);rw[show i+(k+1)=i+1+k by omega];exact this
theorem z2t {P:Nat→Prop} {w:World} {A:Option Addr} {r x:Re} {k:Nat} (h:Kids P w A r) (hk:r.kids[k]?=some x):∃ ad A' c,A=some ad∧P ad.block∧At9 w (ad.add (k * 9)) x A' c∧Kids P w A' x:=by
 obtain⟨k0,S,ks,lo,hi,n⟩:=r;rw[Kids] at h
 rcases h with h | ⟨ad,rfl,hp,hl⟩
 ·simp[Re.kids,h] at hk
 ·obtain⟨A',c,h1,h2⟩:=y28 hl hk
  rw[Nat.zero_add] at h1;exact⟨ad,A',c,rfl,hp,h1,h2⟩
theorem At9.keep {w w':World} {a:Addr} {r:Re} {A:Option Addr} {c:Nat} (h:At9 w a r A c) (hs:∀ o,w'.cell? ⟨a.block,o,none⟩=w.cell? ⟨a.block,o,none⟩) (h0:w'.cell? a=w.cell? a):At9 w' a r A c:=by
 obtain⟨k,S,ks,lo,hi,n⟩:=r;obtain⟨a0,a1,a2,a3,a4,a5,a6,a7,a8⟩:=h;exact⟨h0.trans a0,(hs _).trans a1,(hs _).trans a2,(hs _).trans a3,(hs _).trans a4,(hs _).trans a5,(hs _).trans a6,(hs _).trans a7,(hs _).trans a8⟩
def SameOn (P:Nat→Prop) (w w':World):Prop:=∀ a:Addr,P a.block→w'.cell? a=w.cell? a
theorem y24 {P Q:Nat→Prop} {w w':World} (ad:Addr):∀ (l:List Re) (i:Nat),(∀ r∈l,∀ A,Kids P w A r→Kids Q w' A r)→SameOn P w w'→P ad.block→KidsL P w ad i l→KidsL Q w' ad i l
 | [],i,_,_,_,h=>by rw[KidsL];trivial
 | r::l,i,ih,hs,hp,h=>by
   rw[KidsL] at h ⊢;obtain⟨⟨A,c,h1,h2⟩,h3⟩:=h;refine⟨⟨A,c,h1.keep (fun o=>hs _ ?_) (hs _ ?_),ih r (by simp) A h2⟩,y24 ad l (i+1) (fun r hr=>ih r (by simp[hr])) hs hp h3⟩
   ·show P (ad.add (i * 9)).block
    rw[z0j];exact hp
   ·rw[z0j];exact hp
theorem z05 {P Q:Nat→Prop} {w w':World} (hs:SameOn P w w') (hpq:∀ k,P k→Q k):∀ (r:Re) (A:Option Addr),Kids P w A r→Kids Q w' A r:=by
 intro r
 induction r using Re.ind with
 | h k S ks lo hi n ih=>
   intro A h;rw[Kids] at h ⊢
   rcases h with h | ⟨ad,rfl,hp,hl⟩
   ·exact .inl h
   ·exact .inr ⟨ad,rfl,hpq _ hp,y24 ad ks 0 ih hs hp hl⟩
def Lt (B:Nat):Nat→Prop:=fun k=>k<B
theorem z7h {B:Nat} {w w':World} (hb:Below B w w'):SameOn (Lt B) w w':=fun _ h=>hb.cell h
theorem Kids.keep {B:Nat} {w w':World} {A:Option Addr} {r:Re} (h:Kids (Lt B) w A r) (hb:Below B w w'):Kids (Lt B) w' A r:=z05 (z7h hb) (fun _ h=>h) r A h
theorem Kids.up {B B':Nat} {w:World} {A:Option Addr} {r:Re} (h:Kids (Lt B) w A r) (hB:B≤B'):Kids (Lt B') w A r:=z05 (fun _ _=>rfl) (fun k h=>by unfold Lt at *;omega) r A h
theorem Kids.next {w w':World} {A:Option Addr} {r:Re} (h:Kids (Lt w.heap.size) w A r) (hb:Below w.heap.size w w'):Kids (Lt w'.heap.size) w' A r:=(h.keep hb).up hb.size
theorem z0u {α:Type} {l:List α} {k n:Nat} (hn:n=l.length) (h:k<n):∃ p,l[k]?=some p:=⟨_,List.getElem?_eq_getElem (by omega)⟩
theorem z31 {l:List Re} {r:Re} (h:r∈l):sizeE r≤sizeL l:=by
 induction l with
 | nil=>cases h
 | cons x l ih=>
   rw[sizeL]
   rcases List.mem_cons.1 h with rfl | h
   ·omega
   ·have:=ih h;omega
theorem z06 (l:List Re) (k:Nat):sizeL (l.take k)≤sizeL l:=by
 induction l generalizing k with
 | nil=>simp[sizeL]
 | cons x l ih=>
   cases k with
   | zero=>simp[sizeL]
   | succ k=>rw[List.take_succ_cons,sizeL,sizeL];have:=ih k;omega
theorem z00 (l:List Re):l.length≤sizeL l:=by
 induction l with
 | nil=>simp[sizeL]
 | cons x l ih=>rw[sizeL,List.length_cons];cases x;rw[sizeE];omega
theorem z3t {w wr:World} {A:Option Addr} {r x:Re} {j:Nat} (h:Kids (Lt w.heap.size) w A r) (hb:Below w.heap.size w wr) (hx:r.kids[j]?=some x):
  ∃ ad A' c',A=some ad∧ad.block<w.heap.size∧At9 wr (ad.add (j * 9)) x A' c'∧Kids (Lt w.heap.size) w A' x:=by
 obtain⟨ad,A',c',rfl,hp,h9,hkr⟩:=z2t h hx;exact⟨ad,A',c',rfl,hp,h9.keep (fun o=>hb.cell (by show (ad.add (j * 9)).block<_;rw[z0j];exact hp)) (hb.cell (by rw[z0j];exact hp)),hkr⟩
theorem z1c {l:List Re} {k:Nat} {r:Re} (h:l[k]?=some r):sizeL (l.take (k+1))=sizeL (l.take k)+sizeE r:=by
 obtain⟨hk,e⟩:=List.getElem?_eq_some_iff.1 h;rw[List.take_succ_eq_append_getElem hk,e]
 have:∀ a b:List Re,sizeL (a++b)=sizeL a+sizeL b:=by
  intro a b
  induction a with
  | nil=>simp[sizeL]
  | cons x a ih=>rw[List.cons_append,sizeL,ih,sizeL];omega
 rw[this];simp[sizeL]
theorem y7m (r:Re):∀ (A:Option Addr) (c:Nat) (left:Nat) (w:World),Kids (Lt w.heap.size) w A r→left≤120→
  Calls Tryd.prog 13 #[valR r A c,.int .i64 left] w fun e w'=>e= .returned (.int .i64 (max ((left:Int) - sizeE r) (-1)))∧Below w.heap.size w w':=by
 induction r using Re.ind with
 | h k S ks lo hi n ih=>
   intro A c left w hk hleft;simp only[valR];obtain⟨G,hG⟩:∃ G:Int,G=max ((left:Int) - sizeE (.mk k S ks lo hi n)) (-1):=⟨_,rfl⟩;rw[←hG];obtain⟨m,hm⟩:∃ m,m=ks.length:=⟨_,rfl⟩;rw[←hm];rw[sizeE] at hG;have HGG:=Lib.hid hG;have HM:=Lib.hid hm;have HK:=Lib.hid hk;have HI:=Lib.hid ih;clear hk ih hG hm;obtain⟨s0,hs0⟩:∃ s0:Int,s0=S.1.toNat:=⟨_,rfl⟩;obtain⟨s1,hs1⟩:∃ s1:Int,s1=S.2.1.toNat:=⟨_,rfl⟩;obtain⟨s2,hs2⟩:∃ s2:Int,s2=S.2.2.1.toNat:=⟨_,rfl⟩;obtain⟨s3,hs3⟩:∃ s3:Int,s3=S.2.2.2.toNat:=⟨_,rfl⟩;rw[←hs0,←hs1,←hs2,←hs3];clear hs0 hs1 hs2 hs3;obtain⟨o,ho⟩:∃ o:Obj,o= .cells #[.int .i64 k,.int .u64 s0,.int .u64 s1,.int .u64 s2,.int .u64 s3,.slice A m c,.int .i64 lo,.int .i64 hi,.int .i64 n] 27:=⟨_,rfl⟩;have hbo:Below w.heap.size w (w.alloc o):=(Below.refl _ _).alloc (Nat.le_refl _) _;have hc5:(w.alloc o).cell? ⟨w.heap.size,5,none⟩=some (.slice A m c):=by rw[ho];simp[go_sem]
   rw[ho] at hbo hc5;clear ho;go_enter Tryd.func13,Tryd.ntmps13;go_wp2
   go_loopw [1,11] (fun g i wr=>∃ j:Nat,j≤m∧j≤121∧i= .int .i64 j∧g= .int .i64 (max ((left:Int) - 1 - sizeL (ks.take j)) (-1))∧Below (w.heap.size+1) (w.alloc (.cells #[.int .i64 k,.int .u64 s0,.int .u64 s1,.int .u64 s2,.int .u64 s3,.slice A m c,.int .i64 lo,.int .i64 hi,.int .i64 n] 27)) wr) (fun _ i _=>m - (intOf i).toNat)
   case atStart=>exact⟨0,by omega,by omega,rfl,by simp[sizeL];omega,Below.refl _ _⟩
   case round=>
    obtain⟨j,hj,hj2,rfl,rfl,hb1⟩:=hrel;have hb:Below w.heap.size w wr:=hbo.trans (hb1.mono (by omega));have c5:wr.cell? ⟨w.heap.size,5,none⟩=some (.slice A m c):=(hb1.cell (p:=⟨w.heap.size,5,none⟩) (by show w.heap.size<w.heap.size+1;omega)).trans hc5;have HB1:=Lib.hid hb1;clear hb1;obtain⟨z,hz⟩:∃ z:Int,z=max ((left:Int) - 1 - sizeL (ks.take j)) (-1):=⟨_,rfl⟩;rw[←hz];have hzm: -1≤z:=by rw[hz];exact Int.le_max_right _ _
    by_cases a:j<m
    ·obtain⟨r,hr⟩:=z0u HM.out a
     obtain⟨ad,A',c',rfl,hp,h9,hkr⟩:=z3t HK.out hb hr;have hmem:=List.mem_of_getElem? hr;have HX:=z1c hr;have htl:=z06 ks j;have htl2:=z06 ks (j+1)
     have hjl:j≤sizeL (ks.take j):=by
      have:=z00 (ks.take j);rw[List.length_take,←HM.out] at this;omega
     by_cases hneg:z<0
     ·have HX2:Hid (z=G):=Lib.hid (by rw[HGG.out];omega)
      clear hr hkr hmem h9 HX hjl hz htl htl2;go_wp2;go_ret;exact⟨y7b HX2.out,hb⟩
     ·obtain⟨zn,hzn⟩:∃ zn:Nat,z=zn:=⟨z.toNat,by omega⟩
      subst hzn
      have K:∀ w2,Below w.heap.size w w2→Calls Tryd.prog 13 #[valR r A' c',.int .i64 zn] w2 fun e w'=>e= .returned (.int .i64 (max ((zn:Int) - sizeE r) (-1)))∧Below w2.heap.size w2 w':=fun w2 h2=>
       HI.out r hmem A' c' zn w2 (hkr.next h2) (by omega)
      have hj3:j+1≤121:=by omega
      have HX3:Hid (max ((zn:Int) - sizeE r) (-1)=max ((left:Int) - 1 - sizeL (ks.take (j+1))) (-1)):=Lib.hid (by rw[HX];push_cast;omega);obtain⟨k',S',ks',lo',hi',n'⟩:=r;simp only[valR] at K;have HKC:=Lib.hid K;obtain⟨d0,d1,d2,d3,d4,d5,d6,d7,d8⟩:=h9;clear hr hkr hmem K HX hjl hz htl htl2;go_wp2_with (go_at_call 13;((with_reducible refine(HKC.out _ hb).mono ?_));rintro e w' ⟨rfl,hb2⟩)
      go_roundw
      case rel=>exact⟨j+1,by omega,hj3,by go_num,by rw[HX3.out],HB1.out.trans (hb2.mono (by simpa using HB1.out.size))⟩
      case measure=>simp[intOf];omega
    ·have HE:ks.take j=ks:=List.take_of_length_le (by have:=HM.out;omega)
     rw[HE] at hz;have HX2:Hid (z=G):=Lib.hid (by rw[HGG.out];omega);clear HE hz;go_wp2;go_ret;exact⟨y7b HX2.out,hb⟩
theorem y5y (r:Re) (A:Option Addr) (c:Nat) (most:Nat) (w:World) (hk:Kids (Lt w.heap.size) w A r) (hm:most≤120):
  Calls Tryd.prog 6 #[valR r A c,.int .i64 most] w fun e w'=>e= .returned (.bool (decide (sizeE r≤most)))∧Below w.heap.size w w':=by
 have K:∀ w2,Below w.heap.size w w2→Calls Tryd.prog 13 #[valR r A c,.int .i64 most] w2 fun e w'=>e= .returned (.int .i64 (max ((most:Int) - sizeE r) (-1)))∧Below w2.heap.size w2 w':=fun w2 h2=>
  y7m r A c most w2 (hk.next h2) hm
 obtain⟨z,hz⟩:∃ z:Int,z=max ((most:Int) - sizeE r) (-1):=⟨_,rfl⟩;rw[←hz] at K;have hd:decide (sizeE r≤most)=decide (0≤z):=by rw[decide_eq_decide,hz];omega
 rw[hd];clear hz hd;obtain⟨k',S',ks',lo',hi',n'⟩:=r;simp only[valR] at K ⊢;have HKC:=Lib.hid K;clear K hk;by_cases h0:0≤z
 ·go_enter Tryd.func6,Tryd.ntmps6
  go_wp2_with (go_at_call 13;((with_reducible refine(HKC.out _ ((Below.refl _ _).alloc (Nat.le_refl _) _)).mono ?_));rintro e w' ⟨rfl,hb2⟩);go_ret;exact⟨by simp[h0],((Below.refl _ _).alloc (Nat.le_refl _) _).trans (hb2.mono (by simp))⟩
 ·go_enter Tryd.func6,Tryd.ntmps6
  go_wp2_with (go_at_call 13;((with_reducible refine(HKC.out _ ((Below.refl _ _).alloc (Nat.le_refl _) _)).mono ?_));rintro e w' ⟨rfl,hb2⟩);go_ret;exact⟨by simp,((Below.refl _ _).alloc (Nat.le_refl _) _).trans (hb2.mono (by simp))⟩
end Go.Proofs.YtejgbpbljdhndaaDoor
