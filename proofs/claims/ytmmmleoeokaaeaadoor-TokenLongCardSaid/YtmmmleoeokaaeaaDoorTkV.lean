import Derived.Laws.IdiomStrings
import Derived.ArgAppend
import Derived.Laws.RangeAny
import Derived.Below
import Derived.Test.YtmmmleoeokaaeaaDoorTkC
namespace Go.Proofs.YtmmmleoeokaaeaaDoor
open Go Go.RowKit
section
structure BR (B:Nat) (w:World) (g cap:Nat) (l:List UInt8):Prop where
 base:B≤g
 le:l.length≤cap
 cells:∀ j (hj:j<l.length),w.cell? ⟨g,j,none⟩=some (.int .u8 (l[j].toNat:Int))
 room:∀ j,j<cap→(w.cell? ⟨g,j,none⟩).isSome=true∧w.frozen? ⟨g,j,none⟩=false
theorem BR.on {B:Nat} {w w':World} {g cap:Nat} {l:List UInt8} (h:BR B w g cap l) (hb:Below w.heap.size w w'):BR B w' g cap l:=by
 have hlt:∀ j,j<cap→g<w.heap.size:=fun j hj=>by
  obtain⟨v,hv⟩:=Option.isSome_iff_exists.1 (h.room j hj).1;exact World.block_lt_of_cell? w _ hv
 refine⟨h.base,h.le,fun j hj=>?_,fun j hj=>?_⟩
 ·rw[hb.cell (show g<w.heap.size from hlt j (by have:=h.le;omega))];exact h.cells j hj
 ·rw[hb.cell (show g<w.heap.size from hlt j hj),hb.frozen (show g<w.heap.size from hlt j hj)];exact h.room j hj
theorem size_bytesRow (s:ByteArray) (c:Nat) (h:s.size≤c):(bytesRow s c).size=c:=by
 unfold bytesRow;have:s.data.size=s.size:=rfl;simp[this];omega
section
variable {P:Program}
theorem conv_b (w:World) (src dst e:TypeId) (s:ByteArray) (hs:P.underlying src=some .string) (hd:P.underlying dst=some (.slice e)) (he:P.underlying e=some (.int .u8)):
  ∃ C W',(convert src dst (.string s)).run P w= .ok (.slice (some ⟨w.heap.size,0,none⟩) s.size C) W'∧BR w.heap.size W' w.heap.size C s.data.toList∧Below w.heap.size w W':=by
 have hc:=grownCap_ge w s.size 0 e;have hz:=size_bytesRow s _ hc;refine⟨_,_,run_bytes_of_string w src dst e s hs hd he,⟨Nat.le_refl _,by rw[len_data];exact hc,fun j hj=>?_,fun j hj=>?_⟩,((Below.refl _ _).drew).alloc (Nat.le_refl _) _⟩
 ·refine(World.cell?_alloc_mark w.drew _ _ _ j).trans ?_
  rw[bytesRow_at s _ j (by simpa using hj)];simp
 ·have h1:=World.cell?_alloc_mark w.drew (bytesRow s (grownCap w s.size 0 e)) e ((bytesRow s (grownCap w s.size 0 e)).size,(bytesRow s (grownCap w s.size 0 e)).size+1) j
  have h2:=World.frozen?_alloc_mark w.drew (bytesRow s (grownCap w s.size 0 e)) e (bytesRow s (grownCap w s.size 0 e)).size ((bytesRow s (grownCap w s.size 0 e)).size+1) j;refine⟨?_,?_⟩
  ·refine(congrArg Option.isSome h1).trans ?_
   rw[Array.getElem?_eq_getElem (by rw[hz];exact hj)];rfl
  ·refine h2.trans ?_
   rw[hz];simp;omega
theorem back_b {B:Nat} {w:World} {g cap:Nat} {l:List UInt8} (h:BR B w g cap l) (src dst e:TypeId) (hs:P.underlying src=some (.slice e)) (he:P.underlying e=some (.int .u8)) (hd:P.underlying dst=some .string) (n:Nat) (hn:n=l.length) (S:ByteArray) (hS:S=⟨l.toArray⟩):
  (convert src dst (.slice (some ⟨g,0,none⟩) n cap)).run P w= .ok (.string S) w:=by
 subst hn hS;refine run_convert_bytes_back w src dst e ⟨g,0,none⟩ cap l hs he hd fun j hj=>?_
 rw[Addr.add_lit,Nat.zero_add];exact h.cells j hj
theorem wp_app_b (w:World) {ops:Array Oper} {rest:List Oper} {o:Oper} {a:Act} {Q:Exit→Act→World→Prop}
  (hg:o.guard=none) (s x:Operand) (t:TypeId) (hop:o.op=Op.call { callee:=Callee.builtin Builtin.append,args:=#[s,x],argTypes:=#[t,t] })
  (e:TypeId) (i:TypeInfo) (z:Value) (h1:P.underlying t=some (.slice e)) (h2:P.info? e=some i) (h3:i.zero=some z) (h4:i.size=1) (h5:i.bytes=1) (h6:z.cells.size=1)
  (B g n cap:Nat) (l:List UInt8) (hs:a.eval s= .slice (some ⟨g,0,none⟩) n cap) (hn:l.length=n) (hB:BR B w g cap l) (w0:World) (hb:Below B w0 w) (hBw:B≤w.heap.size)
  (ad:Addr) (c:UInt8) (hx:a.eval x= .slice (some ad) 1 1) (hc:w.cell? ad=some (.int .u8 (c.toNat:Int))) (b1:n≤1000000)
  (K:∀ g' cap' w',BR B w' g' cap' (l++[c])→Below B w0 w'→wpList P ops Q rest (a.put o.dst (.slice (some ⟨g',0,none⟩) (n+1) cap')) w'):
  wpList P ops Q (o::rest) a w:=by
 subst hn;refine wpList_append_arg w hg s x t hop e i z 1 1 h1 h2 h3 h4 h5 h6 (by decide) g 0 l.length cap (l.map fun b=> .int .u8 (b.toNat:Int)) hs (by simp) ?_ ad 1 1 [.int .u8 (c.toNat:Int)] hx rfl ?_ ?_ ?_ (by simp only[maxLen];omega) (by omega) ?_ ?_
 ·intro j u hj
  rw[List.getElem?_map] at hj;obtain⟨b,hb1,rfl⟩:=Option.map_eq_some_iff.1 hj;obtain⟨hlt,rfl⟩:=List.getElem?_eq_some_iff.1 hb1;rw[Nat.zero_add];exact hB.cells j hlt
 ·intro j u hj
  match j,hj with
  | 0,hj=>cases hj;exact hc
  | j+1,hj=>cases hj
 ·intro u hu
  rw[List.mem_singleton] at hu;subst hu;rfl
 ·intro hr j hj
  have:j=0:=by simpa using hj
  subst this;exact hB.room _ (by omega)
 ·intro hr
  have hin:(w.setCells g (0+l.length * 1) [.int .u8 (c.toNat:Int)]).cell? ⟨g,l.length,none⟩=some (.int .u8 (c.toNat:Int)):=by
   have:=World.cell?_setCells_in g [.int .u8 (c.toNat:Int)] (0+l.length * 1) w (fun j hj=>by
    have:j=0:=by simpa using hj
    subst this;exact(hB.room _ (by omega)).1) 0 (by simp)
   rw[show 0+l.length * 1+0=l.length by omega] at this;exact this
  refine K g cap _ ⟨hB.base,by simp;omega,fun j hj=>?_,fun j hj=>?_⟩ ?_
  ·by_cases hjl:j<l.length
   ·rw[World.cell?_setCells_out g _ _ w ⟨g,j,none⟩ (fun _ _=> .inl (by show j<0+l.length * 1;omega)),hB.cells j hjl,List.getElem_append_left hjl]
   ·have hje:j=l.length:=by simp at hj;omega
    subst hje;rw[hin];simp
  ·refine⟨?_,?_⟩
   ·by_cases hjl:j=l.length
    ·subst hjl
     rw[hin];rfl
    ·rw[World.cell?_setCells_out g _ _ w ⟨g,j,none⟩ (fun _ _=>by show j<0+l.length * 1∨0+l.length * 1+1≤j;omega)]
     exact(hB.room j hj).1
   ·rw[World.frozen?_setCells];exact(hB.room j hj).2
  ·exact hb.setCell hB.base _
 ·intro hr v' w' ho hg'
  obtain⟨_,⟨_,h0⟩ | ⟨g',cap',cur,rfl,q1,q2,q3,_,q5,q6⟩⟩:=ho
  ·omega
  have hcell:∀ j,w'.cell? ⟨g',j,none⟩=cur[j]?:=fun j=>by
   unfold World.cell?;rw[q2];simp
  refine K g' cap' w' ⟨Nat.le_trans hBw q1,by simp;omega,fun j hj=>?_,fun j hj=>?_⟩ (hb.grown hg' hBw (fun k hk=>by cases hk))
  ·have hj':j<l.length+1:=by simpa using hj
   rw[hcell];have e1:cur.toList[j]?=(List.take ((l.length+1) * 1) cur.toList)[j]?:=by rw[List.getElem?_take_of_lt (by omega)]
   rw[←Array.getElem?_toList,e1,q6];by_cases hjl:j<l.length
   ·rw[List.getElem?_append_left (by simpa using hjl),List.getElem?_map,List.getElem?_eq_getElem hjl,List.getElem_append_left hjl];rfl
   ·have hje:j=l.length:=by omega
    subst hje;simp
  ·refine⟨?_,?_⟩
   ·rw[hcell,Array.getElem?_eq_getElem (by omega)];rfl
   ·unfold World.frozen?
    rw[q2];simp
end
theorem decode_parts (s:ByteArray) (pos:Nat):(Utf8.decode s pos).2=1∨((Utf8.decode s pos).2=2∧(pos+1<s.size∧(s.get! (pos+1)).toNat / 64=2))∨((Utf8.decode s pos).2=3∧(pos+1<s.size∧(s.get! (pos+1)).toNat / 64=2)∧(pos+2<s.size∧(s.get! (pos+2)).toNat / 64=2))∨
  ((Utf8.decode s pos).2=4∧(pos+1<s.size∧(s.get! (pos+1)).toNat / 64=2)∧(pos+2<s.size∧(s.get! (pos+2)).toNat / 64=2)∧(pos+3<s.size∧(s.get! (pos+3)).toNat / 64=2)):=by
 simp only[Utf8.decode]
 repeat' split
 all_goals simp_all
theorem get_bang (s:ByteArray) (j:Nat) (h:j<s.size):s.get! j=s[j]'h:=by
 have:=get_at s j h;rwa [Nat.add_zero] at this
theorem width_one (s:ByteArray) (pos:Nat):1≤(Utf8.decode s pos).2:=by
 rcases decode_parts s pos with h | ⟨h,_⟩ | ⟨h,_⟩ | ⟨h,_⟩ <;> omega
theorem step_nl (s:ByteArray) (pos:Nat) (hp:pos<s.size) (h0:notNl (s[pos]'hp)=true) (h:∀ j (hj:j<s.size),j<pos→notNl s[j]=true):∀ j (hj:j<s.size),j<pos+(Utf8.decode s pos).2→notNl s[j]=true:=by
 have K:∀ j (hj:j<s.size),(s.get! j).toNat / 64=2→notNl s[j]=true:=fun j hj hc=>by
  rw[get_bang s j hj] at hc;unfold notNl;simp only[decide_eq_true_eq];omega
 intro j hj hlt;by_cases h1:j<pos
 ·exact h j hj h1
 by_cases h2:j=pos
 ·subst h2;exact h0
 rcases decode_parts s pos with e | ⟨e,c1⟩ | ⟨e,c1,c2⟩ | ⟨e,c1,c2,c3⟩
 ·omega
 ·obtain rfl:j=pos+1:=by omega
  exact K _ hj c1.2
 ·by_cases h3:j=pos+1
  ·subst h3;exact K _ hj c1.2
  ·obtain rfl:j=pos+2:=by omega
   exact K _ hj c2.2
 ·by_cases h3:j=pos+1
  ·subst h3;exact K _ hj c1.2
  by_cases h4:j=pos+2
  ·subst h4;exact K _ hj c2.2
  ·obtain rfl:j=pos+3:=by omega
   exact K _ hj c3.2
theorem all_nl (s:ByteArray) (pos:Nat) (hp:¬ pos<s.size) (h:∀ j (hj:j<s.size),j<pos→notNl s[j]=true):∀ c∈s.data.toList,notNl c=true:=by
 intro c hc;obtain⟨j,hj,rfl⟩:=List.mem_iff_getElem.1 hc;have hj':j<s.size:=by rw[len_data] at hj;exact hj
 exact h j hj' (by omega)
end
end Go.Proofs.YtmmmleoeokaaeaaDoor
