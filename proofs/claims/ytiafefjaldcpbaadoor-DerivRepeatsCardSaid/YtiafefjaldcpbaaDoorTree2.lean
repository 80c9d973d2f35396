import Derived.Test.YtiafefjaldcpbaaDoorRows
import Derived.WalkKit
import Derived.WalkSpells
import Derived.WalkLawsBesides
import Derived.Lib.Hide
import Derived.Outline
import Derived.Test.YtiafefjaldcpbaaDoorStab4
import Derived.Test.YtiafefjaldcpbaaDoorShelf
import Derived.Laws.IdiomStrings
import Derived.Laws.OwnMore
import Derived.Lib.SmallJoins
import Derived.Lib.UnsafeStr
import Derived.Deep.Onto
import Derived.Deep.QuietTactic
import Derived.Deep.Slices
import Derived.RegionTactic
import Derived.BigQuiet
namespace Go.Proofs.YtiafefjaldcpbaaDoor
open Go Go.RowKit
set_option maxHeartbeats 1000000
theorem ret_bool {a b:Bool} (h:a=b):Ending.returned (.bool a)= .returned (.bool b):=by rw[h]
theorem len_data (s:ByteArray):s.data.toList.length=s.size:=Array.length_toList
theorem drop_at (s:ByteArray) (k:Nat) (hk:k<s.size):s.data.toList.drop k=s[k]::s.data.toList.drop (k+1):=by
 rw[List.drop_eq_getElem_cons (i:=k) (l:=s.data.toList) (by rw[len_data];exact hk)];simp;rfl
theorem drop_end (s:ByteArray) (k:Nat) (hk:¬ k<s.size):s.data.toList.drop k=[]:=by
 rw[List.drop_eq_nil_iff,len_data];omega
theorem get_at (s:ByteArray) (k:Nat) (hk:k<s.size):s.data.toList[k]?=some s[k]:=by
 rw[List.getElem?_eq_getElem (by rw[len_data];exact hk)];simp;rfl
theorem get_end (s:ByteArray) (k:Nat) (hk:¬ k<s.size):s.data.toList[k]?=none:=by
 rw[List.getElem?_eq_none];rw[len_data];omega
theorem byte_eq {c:UInt8} {n:Nat} (h:c=UInt8.ofNat n) (hn:n<256):((c.toNat:Int)==(n:Int))=true:=by
 subst h;simp[Nat.mod_eq_of_lt hn]
theorem byte_ne {c:UInt8} {n:Nat} (h:c≠UInt8.ofNat n) (_:n<256):((c.toNat:Int)==(n:Int))=false:=by
 rw[Bool.eq_false_iff];intro he;apply h;have h1:c.toNat=n:=by have:=eq_of_beq he;omega
 rw[←h1];simp
def Looks (set:ByteArray) (sg:Bs):Prop:=∀ c:UInt8,(0≤Lib.indexByte set.data.toList c ↔ c∈sg)∧ -1≤Lib.indexByte set.data.toList c∧Lib.indexByte set.data.toList c≤255
theorem idx_is (set:ByteArray) (c:UInt8) (v:Int) (h:Lib.indexByte set.data.toList c=v) (w:World):
  Calls Tryd.prog 84 #[.string set,.int .u8 (c.toNat:Nat)] w fun e w'=>e= .returned (.int .i64 v)∧w=w':=
 (Tryd.strings_IndexByte set (c.toNat:Nat) w).mono fun e w' ⟨he,hw⟩=>⟨by rw[he,←h];simp,hw.symm⟩
def resB:Res UInt8→Value
 | .bad q=> .tuple #[.int .u8 0,.int .i64 q,.bool false]
 | .ok c q=> .tuple #[.int .u8 c.toNat,.int .i64 q,.bool true]
def resR (k:Nat):Res UInt8→Value
 | .bad q=> .tuple #[.int .u8 0,.int .i64 (-1),.int .i64 q]
 | .ok c q=> .tuple #[.int .u8 c.toNat,.int .i64 ((q:Int) - k),.int .i64 0]
theorem resR_ok {c:UInt8} {q k:Nat} {n:Int} (h:(q:Int) - k=n):resR k (.ok c q)= .tuple #[.int .u8 c.toNat,.int .i64 n,.int .i64 0]:=by simp only[resR,h]
theorem ritem_any (s:ByteArray) (k:Nat) (hk:k≤s.size) (hs:s.size≤1000000) (w:World):
  Calls Tryd.prog 87 #[.string s,.int .i64 k] w fun e w'=>e= .returned (resR k (rb sgI s.data.toList k))∧w=w':=by
 obtain⟨R,hR⟩:∃ R,R=rb sgI s.data.toList k:=⟨_,rfl⟩;rw[←hR];unfold rb at hR;by_cases a:k<s.size
 ·rw[drop_at s k a] at hR
  dsimp only at hR;by_cases c92:s[k]=92
  ·have b92:((s[k].toNat:Int) != 92)=false:=by
    have:=byte_eq (n:=92) c92 (by omega);simp only[bne];simpa using this
   have b93:((s[k].toNat:Int)==93)=false:=byte_ne (n:=93) (by rw[c92];decide) (by omega);have b45:((s[k].toNat:Int)==45)=false:=byte_ne (n:=45) (by rw[c92];decide) (by omega);rw[if_pos c92] at hR;by_cases a1:k+1<s.size
   ·rw[drop_at s (k+1) a1] at hR
    have HR:=Lib.hid hR;clear hR c92;go_enter Tryd.func87,Tryd.ntmps87;go_wp2
    go_ret3
    rw[HR.out,resR_ok (n:=2) (by omega)];exact⟨rfl,rfl⟩
   ·rw[drop_end s (k+1) a1] at hR
    have HR:=Lib.hid hR;clear hR c92;go_enter Tryd.func87,Tryd.ntmps87;go_wp2
    go_ret3
    rw[HR.out];exact⟨rfl,rfl⟩
  ·have b92:((s[k].toNat:Int) != 92)=true:=by
    have:=byte_ne (n:=92) c92 (by omega);simp only[bne];simpa using this
   rw[if_neg c92] at hR;by_cases c93:s[k]=93
   ·have b93:((s[k].toNat:Int)==93)=true:=byte_eq (n:=93) c93 (by omega)
    rw[if_pos (by rw[c93];decide)] at hR;have HR:=Lib.hid hR;clear hR c92 c93;go_enter Tryd.func87,Tryd.ntmps87;go_wp2
    go_ret3
    rw[HR.out];exact⟨rfl,rfl⟩
   ·have b93:((s[k].toNat:Int)==93)=false:=byte_ne (n:=93) c93 (by omega)
    by_cases c45:s[k]=45
    ·have b45:((s[k].toNat:Int)==45)=true:=byte_eq (n:=45) c45 (by omega)
     rw[if_pos (by rw[c45];decide)] at hR;have HR:=Lib.hid hR;clear hR c92 c93 c45;go_enter Tryd.func87,Tryd.ntmps87;go_wp2
     go_ret3
     rw[HR.out];exact⟨rfl,rfl⟩
    ·have b45:((s[k].toNat:Int)==45)=false:=byte_ne (n:=45) c45 (by omega)
     rw[if_neg (by simp[sgI,c92,c93,c45])] at hR;have HR:=Lib.hid hR;clear hR c92 c93 c45;go_enter Tryd.func87,Tryd.ntmps87;go_wp2
     go_ret3
     rw[HR.out,resR_ok (n:=1) (by omega)];exact⟨rfl,rfl⟩
 ·rw[drop_end s k a] at hR
  have HR:=Lib.hid hR;obtain rfl:k=s.size:=by omega
  clear hR;go_enter Tryd.func87,Tryd.ntmps87;go_wp2
  go_ret3
  rw[HR.out];exact⟨rfl,rfl⟩
def cellsS (l:List Sp):List Value:=l.flatMap fun p=>[.int .u8 p.1.toNat,.int .u8 p.2.toNat]
theorem cellsS_length (l:List Sp):(cellsS l).length=l.length * 2:=by
 induction l with
 | nil=>rfl
 | cons p r ih=>unfold cellsS at ih ⊢;rw[List.flatMap_cons,List.length_append,ih];simp;omega
theorem cellsS_append (a b:List Sp):cellsS (a++b)=cellsS a++cellsS b:=by simp[cellsS]
theorem cellsS_cons (p:Sp) (r:List Sp):cellsS (p::r)= .int .u8 p.1.toNat:: .int .u8 p.2.toNat::cellsS r:=rfl
abbrev byteCells (t:Bs):List Value:=Lib.byteCells t
theorem info48:(Tryd.prog.info? 106).map (fun i=>(i.zero,i.size,i.bytes))=some (some (.agg #[.int .u8 0,.int .u8 0]),2,2):=by kernel_rfl
theorem info5:(Tryd.prog.info? 5).map (fun i=>(i.zero,i.size,i.bytes))=some (some (.int .u8 0),1,1):=by kernel_rfl
theorem below_kept {w w':World} {B e s n:Nat} {v:Value} {xs:List Value} (h:w.ownsRow B e s v n xs) (hb:Below w.heap.size w w'):w'.ownsRow B e s v n xs:=
 h.kept (row:=none) ⟨hb.os,hb.tape,hb.output,hb.size,fun k hk _=>hb.block k hk⟩ (by cases v.ownBlock <;> simp)
theorem row_form {w:World} {B e s n:Nat} {v:Value} {xs:List Value} (h:w.ownsRow B e s v n xs):(v= .slice none 0 0∧n=0)∨∃ g cap,v= .slice (some ⟨g,0,none⟩) n cap∧n≤cap:=by
 rcases h.2 with ⟨rfl,h0⟩ | ⟨g,cap,cur,rfl,_,_,hc,_⟩
 ·exact .inl ⟨rfl,h0⟩
 ·exact .inr ⟨g,cap,rfl,hc⟩
theorem row_slice {w:World} {B e s n:Nat} {v:Value} {xs:List Value} (h:w.ownsRow B e s v n xs):∃ A c,v= .slice A n c:=by
 rcases row_form h with ⟨rfl,rfl⟩ | ⟨g,cap,rfl,_⟩
 ·exact⟨_,_,rfl⟩
 ·exact⟨_,_,rfl⟩
structure Row1 (T s B:Nat) (w0 w:World) (v:Value) (n:Nat) (xs:List Value):Prop where
 row:w.ownsRow B T s v n xs
 below:Below B w0 w
 size:B≤w.heap.size
theorem Row1.nil (T s:Nat) (w:World):Row1 T s w.heap.size w w (.slice none 0 0) 0 []:=⟨World.ownsRow_nil _ _ _ _,Below.refl _ _,Nat.le_refl _⟩
theorem Row1.alloc {T s B n:Nat} {w0 w:World} {v:Value} {xs:List Value} (h:Row1 T s B w0 w v n xs) (o:Obj):Row1 T s B w0 (w.alloc o) v n xs:=
 ⟨h.row.alloc o,h.below.alloc h.size o,by simp;have:=h.size;omega⟩
theorem Row1.drew {T s B n:Nat} {w0 w:World} {v:Value} {xs:List Value} (h:Row1 T s B w0 w v n xs):Row1 T s B w0 w.drew v n xs:=⟨h.row,h.below.drew,h.size⟩
theorem Row1.beyond {T s B n:Nat} {w0 w w':World} {v:Value} {xs:List Value} (h:Row1 T s B w0 w v n xs) (hb:Below w.heap.size w w'):Row1 T s B w0 w' v n xs:=
 ⟨below_kept h.row hb,h.below.trans (hb.mono h.size),Nat.le_trans h.size hb.size⟩
theorem Row1.grown {T s B n n':Nat} {w0 w w':World} {v v':Value} {xs xs':List Value} (h:Row1 T s B w0 w v n xs) (ho:w'.ownsRow B T s v' n' xs') (hg:w.grownBy w' v.ownBlock):Row1 T s B w0 w' v' n' xs':=
 ⟨ho,h.below.grown hg h.size (fun k hk=>(h.row.lt k hk).1),Nat.le_trans h.size hg.size⟩
abbrev RowS (B:Nat) (w0 w:World) (v:Value) (l:List Sp):Prop:=Row1 106 2 B w0 w v l.length (cellsS l)
theorem Row1.span {B:Nat} {w0 w w':World} {v v':Value} {l:List Sp} {p:Sp} (h:RowS B w0 w v l) (ho:w'.ownsRow B 106 2 v' (l.length+1) (cellsS l++[.int .u8 p.1.toNat,.int .u8 p.2.toNat])) (hg:w.grownBy w' v.ownBlock):RowS B w0 w' v' (l++[p]):=by
 have:=h.grown ho hg;unfold RowS;rw[cellsS_append,List.length_append];exact this
theorem new_cells (w:World) (T:TypeId) (cs:Array Value) (j:Nat) (u:Value) (h:cs.toList[j]?=some u):(w.alloc (.cells cs T)).cell? ((⟨w.heap.size,0,none⟩:Addr).add j)=some u:=by
 have hadd:(⟨w.heap.size,0,none⟩:Addr).add j=⟨w.heap.size,j,none⟩:=by unfold Addr.add;split <;> simp_all
 rw[hadd,cell_of_row _ _ j cs T (0,0) (heap_alloc_new w _)];simpa using h
theorem new_cells2 (w:World) (o:Obj) (T:TypeId) (cs:Array Value) (j:Nat) (u:Value) (h:cs.toList[j]?=some u):((w.alloc o).alloc (.cells cs T)).cell? ((⟨w.heap.size+1,0,none⟩:Addr).add j)=some u:=by
 have e:(w.alloc o).heap.size=w.heap.size+1:=by simp
 rw[←e];exact new_cells (w.alloc o) T cs j u h
theorem two_one (a b:Int):∀ u∈[Value.int .u8 a,Value.int .u8 b],u.oneCell'=true:=by
 intro u hu;simp only[List.mem_cons,List.not_mem_nil,or_false] at hu
 rcases hu with rfl | rfl <;> rfl
theorem bytes_one (u:Bs):∀ x∈byteCells u,x.oneCell'=true:=by
 intro x hx;simp only[byteCells,Lib.byteCells,List.mem_map] at hx;obtain⟨b,_,rfl⟩:=hx;rfl
theorem block_of_add (a:Addr) (n:Nat):(a.add n).block=a.block:=by unfold Addr.add;split <;> rfl
theorem add_one (ad:Addr) (m i:Nat) (h:0<i):(⟨(ad.add m).block,(ad.add m).off+i,none⟩:Addr)=ad.add (m+i):=by
 unfold Addr.add;by_cases hk:m=0
 ·subst hk
  have:¬ i=0:=by omega
  simp[this]
 ·have:¬ m+i=0:=by omega
  simp[hk,Nat.add_assoc]
def valR (r:Re) (A:Option Addr) (c:Nat):Value:=match r with
 | .mk k S ks lo hi n=> .agg #[.int .i64 k,.int .u64 S.1.toNat,.int .u64 S.2.1.toNat,.int .u64 S.2.2.1.toNat,.int .u64 S.2.2.2.toNat,.slice A ks.length c,.int .i64 lo,.int .i64 hi,.int .i64 n]
def At9 (w:World) (a:Addr) (r:Re) (A:Option Addr) (c:Nat):Prop:=match r with
 | .mk k S ks lo hi n=>
   w.cell? a=some (.int .i64 k)∧w.cell? ⟨a.block,a.off+1,none⟩=some (.int .u64 S.1.toNat)∧w.cell? ⟨a.block,a.off+2,none⟩=some (.int .u64 S.2.1.toNat)∧
   w.cell? ⟨a.block,a.off+3,none⟩=some (.int .u64 S.2.2.1.toNat)∧w.cell? ⟨a.block,a.off+4,none⟩=some (.int .u64 S.2.2.2.toNat)∧
   w.cell? ⟨a.block,a.off+5,none⟩=some (.slice A ks.length c)∧w.cell? ⟨a.block,a.off+6,none⟩=some (.int .i64 lo)∧
   w.cell? ⟨a.block,a.off+7,none⟩=some (.int .i64 hi)∧w.cell? ⟨a.block,a.off+8,none⟩=some (.int .i64 n)
mutual
def Kids (P:Nat→Prop) (w:World) (A:Option Addr):Re→Prop
 | .mk _ _ ks _ _ _=>ks=[]∨∃ ad,A=some ad∧P ad.block∧KidsL P w ad 0 ks
def KidsL (P:Nat→Prop) (w:World) (ad:Addr) (i:Nat):List Re→Prop
 | []=>True
 | r::rs=>(∃ A c,At9 w (ad.add (i * 9)) r A c∧Kids P w A r)∧KidsL P w ad (i+1) rs
end
theorem kidsL_at {P:Nat→Prop} {w:World} {ad:Addr}:∀ {l:List Re} {i k:Nat} {r:Re},KidsL P w ad i l→l[k]?=some r→∃ A c,At9 w (ad.add ((i+k) * 9)) r A c∧Kids P w A r
 | [],i,k,r,_,hk=>by simp at hk
 | x::l,i,0,r,h,hk=>by
   injection hk with hk;subst hk
   rw[KidsL] at h;exact h.1
 | x::l,i,k+1,r,h,hk=>by
   rw[KidsL] at h;have:=kidsL_at h.2 (k:=k) (r:=r) (by simpa using hk);rw[show i+(k+1)=i+1+k by omega];exact this
theorem kids_at {P:Nat→Prop} {w:World} {A:Option Addr} {r x:Re} {k:Nat} (h:Kids P w A r) (hk:r.kids[k]?=some x):∃ ad A' c,A=some ad∧P ad.block∧At9 w (ad.add (k * 9)) x A' c∧Kids P w A' x:=by
 obtain⟨k0,S,ks,lo,hi,n⟩:=r;rw[Kids] at h
 rcases h with h | ⟨ad,rfl,hp,hl⟩
 ·simp[Re.kids,h] at hk
 ·obtain⟨A',c,h1,h2⟩:=kidsL_at hl hk
  rw[Nat.zero_add] at h1;exact⟨ad,A',c,rfl,hp,h1,h2⟩
theorem At9.keep {w w':World} {a:Addr} {r:Re} {A:Option Addr} {c:Nat} (h:At9 w a r A c) (hs:∀ o,w'.cell? ⟨a.block,o,none⟩=w.cell? ⟨a.block,o,none⟩) (h0:w'.cell? a=w.cell? a):At9 w' a r A c:=by
 obtain⟨k,S,ks,lo,hi,n⟩:=r;obtain⟨a0,a1,a2,a3,a4,a5,a6,a7,a8⟩:=h;exact⟨h0.trans a0,(hs _).trans a1,(hs _).trans a2,(hs _).trans a3,(hs _).trans a4,(hs _).trans a5,(hs _).trans a6,(hs _).trans a7,(hs _).trans a8⟩
def SameOn (P:Nat→Prop) (w w':World):Prop:=∀ a:Addr,P a.block→w'.cell? a=w.cell? a
theorem kidsL_of {P Q:Nat→Prop} {w w':World} (ad:Addr):∀ (l:List Re) (i:Nat),(∀ r∈l,∀ A,Kids P w A r→Kids Q w' A r)→SameOn P w w'→P ad.block→KidsL P w ad i l→KidsL Q w' ad i l
 | [],i,_,_,_,h=>by rw[KidsL];trivial
 | r::l,i,ih,hs,hp,h=>by
   rw[KidsL] at h ⊢;obtain⟨⟨A,c,h1,h2⟩,h3⟩:=h;refine⟨⟨A,c,h1.keep (fun o=>hs _ ?_) (hs _ ?_),ih r (by simp) A h2⟩,kidsL_of ad l (i+1) (fun r hr=>ih r (by simp[hr])) hs hp h3⟩
   ·show P (ad.add (i * 9)).block
    rw[block_of_add];exact hp
   ·rw[block_of_add];exact hp
theorem kids_of {P Q:Nat→Prop} {w w':World} (hs:SameOn P w w') (hpq:∀ k,P k→Q k):∀ (r:Re) (A:Option Addr),Kids P w A r→Kids Q w' A r:=by
 intro r
 induction r using Re.ind with
 | h k S ks lo hi n ih=>
   intro A h;rw[Kids] at h ⊢
   rcases h with h | ⟨ad,rfl,hp,hl⟩
   ·exact .inl h
   ·exact .inr ⟨ad,rfl,hpq _ hp,kidsL_of ad ks 0 ih hs hp hl⟩
def Lt (B:Nat):Nat→Prop:=fun k=>k<B
theorem same_below {B:Nat} {w w':World} (hb:Below B w w'):SameOn (Lt B) w w':=fun _ h=>hb.cell h
theorem Kids.keep {B:Nat} {w w':World} {A:Option Addr} {r:Re} (h:Kids (Lt B) w A r) (hb:Below B w w'):Kids (Lt B) w' A r:=kids_of (same_below hb) (fun _ h=>h) r A h
theorem Kids.up {B B':Nat} {w:World} {A:Option Addr} {r:Re} (h:Kids (Lt B) w A r) (hB:B≤B'):Kids (Lt B') w A r:=kids_of (fun _ _=>rfl) (fun k h=>by unfold Lt at *;omega) r A h
theorem Kids.next {w w':World} {A:Option Addr} {r:Re} (h:Kids (Lt w.heap.size) w A r) (hb:Below w.heap.size w w'):Kids (Lt w'.heap.size) w' A r:=(h.keep hb).up hb.size
theorem get_of_lt {α:Type} {l:List α} {k n:Nat} (hn:n=l.length) (h:k<n):∃ p,l[k]?=some p:=⟨_,List.getElem?_eq_getElem (by omega)⟩
theorem sizeL_mem {l:List Re} {r:Re} (h:r∈l):sizeE r≤sizeL l:=by
 induction l with
 | nil=>cases h
 | cons x l ih=>
   rw[sizeL]
   rcases List.mem_cons.1 h with rfl | h
   ·omega
   ·have:=ih h;omega
theorem sizeL_take (l:List Re) (k:Nat):sizeL (l.take k)≤sizeL l:=by
 induction l generalizing k with
 | nil=>simp[sizeL]
 | cons x l ih=>
   cases k with
   | zero=>simp[sizeL]
   | succ k=>rw[List.take_succ_cons,sizeL,sizeL];have:=ih k;omega
theorem sizeL_len (l:List Re):l.length≤sizeL l:=by
 induction l with
 | nil=>simp[sizeL]
 | cons x l ih=>rw[sizeL,List.length_cons];cases x;rw[sizeE];omega
theorem kid_at {w wr:World} {A:Option Addr} {r x:Re} {j:Nat} (h:Kids (Lt w.heap.size) w A r) (hb:Below w.heap.size w wr) (hx:r.kids[j]?=some x):
  ∃ ad A' c',A=some ad∧ad.block<w.heap.size∧At9 wr (ad.add (j * 9)) x A' c'∧Kids (Lt w.heap.size) w A' x:=by
 obtain⟨ad,A',c',rfl,hp,h9,hkr⟩:=kids_at h hx;exact⟨ad,A',c',rfl,hp,h9.keep (fun o=>hb.cell (by show (ad.add (j * 9)).block<_;rw[block_of_add];exact hp)) (hb.cell (by rw[block_of_add];exact hp)),hkr⟩
theorem sizeL_snoc {l:List Re} {k:Nat} {r:Re} (h:l[k]?=some r):sizeL (l.take (k+1))=sizeL (l.take k)+sizeE r:=by
 obtain⟨hk,e⟩:=List.getElem?_eq_some_iff.1 h;rw[List.take_succ_eq_append_getElem hk,e]
 have:∀ a b:List Re,sizeL (a++b)=sizeL a+sizeL b:=by
  intro a b
  induction a with
  | nil=>simp[sizeL]
  | cons x a ih=>rw[List.cons_append,sizeL,ih,sizeL];omega
 rw[this];simp[sizeL]
end Go.Proofs.YtiafefjaldcpbaaDoor
