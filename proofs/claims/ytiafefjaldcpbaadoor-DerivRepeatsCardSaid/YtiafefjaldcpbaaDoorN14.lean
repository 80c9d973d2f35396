import Derived.Test.YtiafefjaldcpbaaDoorN6
import Derived.Test.YtiafefjaldcpbaaDoorD9
import Derived.Test.YtiafefjaldcpbaaDoorRPrint
import Derived.Handy
namespace Go.Proofs.YtiafefjaldcpbaaDoor
open Go Go.RowKit
set_option maxRecDepth 100000
set_option maxHeartbeats 8000000
def NoMac (b:Nat) (w w':World):Prop:=w'.cell? ⟨b,2,none⟩=some (.slice none 0 0)∧w'.cell? ⟨b,5,none⟩=some (.bool false)∧Below w.heap.size w w'
theorem new_no (R:Re) (A:Option Addr) (c:Nat) (w:World) (hk:Kids (Lt w.heap.size) w A R) (hs:sizeE R≤600) (hr:¬ RightP R) (bg:Bool):
  Calls Tryd.prog 14 #[valR R A c,.bool bg] w fun e w'=>e= .returned (.pointer (some ⟨w.heap.size+1,0,none⟩))∧NoMac (w.heap.size+1) w w':=by
 obtain⟨k,S,ks,lo,hi,n⟩:=R;obtain⟨r,hrr⟩:∃ r,r=Re.mk k S ks lo hi n:=⟨_,rfl⟩;rw[←hrr] at hk hs hr ⊢
 have hmay:mayE r=false:=by
  cases h:mayE r with
  | false=>rfl
  | true=>exact absurd ((may_right r).1 h) hr
 obtain⟨ln,hln⟩:∃ ln,ln=ks.length:=⟨_,rfl⟩;obtain⟨s0,hs0⟩:∃ s0:Int,s0=S.1.toNat:=⟨_,rfl⟩;obtain⟨s1,hs1⟩:∃ s1:Int,s1=S.2.1.toNat:=⟨_,rfl⟩;obtain⟨s2,hs2'⟩:∃ s2:Int,s2=S.2.2.1.toNat:=⟨_,rfl⟩;obtain⟨s3,hs3⟩:∃ s3:Int,s3=S.2.2.2.toNat:=⟨_,rfl⟩;have hval:valR r A c= .agg #[.int .i64 k,.int .u64 s0,.int .u64 s1,.int .u64 s2,.int .u64 s3,.slice A ln c,.int .i64 lo,.int .i64 hi,.int .i64 n]:=by rw[hrr,hln,hs0,hs1,hs2',hs3];rfl
 rw[hval];obtain⟨W1,hW1⟩:∃ W1,W1=(w.alloc (.cells #[.int .i64 k,.int .u64 s0,.int .u64 s1,.int .u64 s2,.int .u64 s3,.slice A ln c,.int .i64 lo,.int .i64 hi,.int .i64 n] 29)).alloc (.cells #[.slice none 0 0,.int .i64 0,.slice none 0 0,.slice none 0 0,.int .i64 0,.bool false] 54):=⟨_,rfl⟩;have hb1:Below w.heap.size w W1:=by rw[hW1];exact(one_box w _).alloc (by simp) _
 have hz1:W1.heap.size=w.heap.size+1+1:=by rw[hW1];simp
 have hmb:W1.heap[w.heap.size+1]?=some (.cells #[.slice none 0 0,.int .i64 0,.slice none 0 0,.slice none 0 0,.int .i64 0,.bool false] 54):=by
  rw[hW1];have:=heap_alloc_new (w.alloc (.cells #[.int .i64 k,.int .u64 s0,.int .u64 s1,.int .u64 s2,.int .u64 s3,.slice A ln c,.int .i64 lo,.int .i64 hi,.int .i64 n] 29)) (.cells #[.slice none 0 0,.int .i64 0,.slice none 0 0,.slice none 0 0,.int .i64 0,.bool false] 54);rw[show (w.alloc (.cells #[.int .i64 k,.int .u64 s0,.int .u64 s1,.int .u64 s2,.int .u64 s3,.slice A ln c,.int .i64 lo,.int .i64 hi,.int .i64 n] 29)).heap.size=w.heap.size+1 by simp] at this;exact this
 have HMAY:Hid (Calls Tryd.prog 21 #[.agg #[.int .i64 k,.int .u64 s0,.int .u64 s1,.int .u64 s2,.int .u64 s3,.slice A ln c,.int .i64 lo,.int .i64 hi,.int .i64 n]] W1 fun e w2=>e= .returned (.bool false)∧Hid (NoMac (w.heap.size+1) w w2)):=Lib.hid (by
  have:=may_any r A c W1 (hk.next hb1) hs;rw[hmay,hval] at this;refine this.mono ?_;rintro e w2 ⟨rfl,hb⟩;have l:=row_cell hmb;have hc:∀ j,w2.cell? ⟨w.heap.size+1,j,none⟩=W1.cell? ⟨w.heap.size+1,j,none⟩:=fun j=>hb.cell (p:=⟨w.heap.size+1,j,none⟩) (by show w.heap.size+1<_;omega)
  exact⟨rfl,Lib.hid ⟨(hc 2).trans ((l 2).trans rfl),(hc 5).trans ((l 5).trans rfl),hb1.trans (hb.mono (by omega))⟩⟩)
 rw[hW1] at HMAY;clear hW1 hb1 hz1 hmb hval hs0 hs1 hs2' hs3 hln hk hs hr hrr hmay
 suffices hs:Calls Tryd.prog 14 #[.agg #[.int .i64 k,.int .u64 s0,.int .u64 s1,.int .u64 s2,.int .u64 s3,.slice A ln c,.int .i64 lo,.int .i64 hi,.int .i64 n],.bool bg] w fun e w'=>e= .returned (.pointer (some ⟨w.heap.size+1,0,none⟩))∧Hid (NoMac (w.heap.size+1) w w') from hs.mono fun e w' ⟨h1,h2⟩=>⟨h1,h2.out⟩
 go_enter Tryd.func14,Tryd.ntmps14;go_wp2_with (go_at_call 21;((with_reducible refine(HMAY.out).mono ?_));rintro e w2 ⟨rfl,HN⟩);go_ret;exact⟨rfl,HN⟩
theorem alive_no {b:Nat} {w:World} (c2:w.cell? ⟨b,2,none⟩=some (.slice none 0 0)) (c5:w.cell? ⟨b,5,none⟩=some (.bool false)):Calls Tryd.prog 15 #[.pointer (some ⟨b,0,none⟩)] w fun e' w'=>e'= .returned (.bool false)∧w'=w:=by
 go_enter Tryd.func15,Tryd.ntmps15;go_wp2;go_ret;exact⟨rfl,rfl⟩
theorem acc_no {b:Nat} {w:World} (c5:w.cell? ⟨b,5,none⟩=some (.bool false)):Calls Tryd.prog 20 #[.pointer (some ⟨b,0,none⟩),.bool false] w fun e' w'=>e'= .returned (.bool false)∧w'=w:=by
 go_enter Tryd.func20,Tryd.ntmps20;go_wp2;go_ret;exact⟨rfl,rfl⟩
theorem match_no (R:Re) (A:Option Addr) (c:Nat) (w:World) (hk:Kids (Lt w.heap.size) w A R) (hs:sizeE R≤600) (hr:¬ RightP R) (s:ByteArray) (_:s.size≤1000) (bg:Bool):
  Calls Tryd.prog 9 #[valR R A c,.string s,.bool bg,.bool false] w fun e' w'=>e'= .returned (.bool false)∧Below w.heap.size w w':=by
 obtain⟨k,S,ks,lo,hi,n⟩:=R;obtain⟨r,hrr⟩:∃ r,r=Re.mk k S ks lo hi n:=⟨_,rfl⟩;rw[←hrr] at hk hs hr ⊢;obtain⟨ln,hln⟩:∃ ln,ln=ks.length:=⟨_,rfl⟩;obtain⟨s0,hs0⟩:∃ s0:Int,s0=S.1.toNat:=⟨_,rfl⟩;obtain⟨s1,hs1⟩:∃ s1:Int,s1=S.2.1.toNat:=⟨_,rfl⟩;obtain⟨s2,hs2'⟩:∃ s2:Int,s2=S.2.2.1.toNat:=⟨_,rfl⟩;obtain⟨s3,hs3⟩:∃ s3:Int,s3=S.2.2.2.toNat:=⟨_,rfl⟩;have hval:valR r A c= .agg #[.int .i64 k,.int .u64 s0,.int .u64 s1,.int .u64 s2,.int .u64 s3,.slice A ln c,.int .i64 lo,.int .i64 hi,.int .i64 n]:=by rw[hrr,hln,hs0,hs1,hs2',hs3];rfl
 rw[hval];obtain⟨W1,hW1⟩:∃ W1,W1=w.alloc (.cells #[.int .i64 k,.int .u64 s0,.int .u64 s1,.int .u64 s2,.int .u64 s3,.slice A ln c,.int .i64 lo,.int .i64 hi,.int .i64 n] 29):=⟨_,rfl⟩;have hb1:Below w.heap.size w W1:=by rw[hW1];exact one_box w _
 have hz1:W1.heap.size=w.heap.size+1:=by rw[hW1];simp
 obtain⟨bb,hbb⟩:∃ bb,bb=w.heap.size+1+1:=⟨_,rfl⟩
 have HNEW:Hid (Calls Tryd.prog 14 #[.agg #[.int .i64 k,.int .u64 s0,.int .u64 s1,.int .u64 s2,.int .u64 s3,.slice A ln c,.int .i64 lo,.int .i64 hi,.int .i64 n],.bool bg] W1 fun e' w'=>e'= .returned (.pointer (some ⟨bb,0,none⟩))∧w'.cell? ⟨bb,2,none⟩=some (.slice none 0 0)∧w'.cell? ⟨bb,5,none⟩=some (.bool false)∧Hid (Below w.heap.size w w')):=Lib.hid (by
  have:=new_no r A c W1 (hk.next hb1) hs hr bg;rw[hval,hz1,←hbb] at this;refine this.mono ?_;rintro e' w' ⟨rfl,h1,h2,h3⟩;exact⟨rfl,h1,h2,Lib.hid (hb1.trans (h3.mono (by omega)))⟩)
 rw[hW1] at HNEW;clear hbb hz1 hb1 hW1 hval hs0 hs1 hs2' hs3 hln hk hs hr hrr
 suffices hs:Calls Tryd.prog 9 #[.agg #[.int .i64 k,.int .u64 s0,.int .u64 s1,.int .u64 s2,.int .u64 s3,.slice A ln c,.int .i64 lo,.int .i64 hi,.int .i64 n],.string s,.bool bg,.bool false] w fun e' w'=>e'= .returned (.bool false)∧Hid (Below w.heap.size w w') from hs.mono fun e' w' ⟨h1,h2⟩=>⟨h1,h2.out⟩
 go_enter Tryd.func9,Tryd.ntmps9;go_wp2_with (go_at_call 14;((with_reducible refine(HNEW.out).mono ?_));rintro e1 w2 ⟨rfl,c2,c5,HB⟩)
 go_loopw [10] (fun i wr=>i= .int .i64 0∧wr=w2) (fun i _=>1)
 case atStart=>exact⟨rfl,rfl⟩
 case round=>
  obtain⟨rfl,rfl⟩:=hrel;have HAL:=Lib.hid (alive_no c2 c5);have HAC:=Lib.hid (acc_no c5);by_cases a:0<s.size
  ·go_wp2_with (first | (go_at_call 15;((with_reducible refine(HAL.out).mono ?_));rintro e1 w3 ⟨rfl,rfl⟩) | (go_at_call 20;((with_reducible refine(HAC.out).mono ?_));rintro e1 w4 ⟨rfl,rfl⟩))
   go_ret;exact⟨rfl,HB⟩
  ·go_wp2_with (first | (go_at_call 15;((with_reducible refine(HAL.out).mono ?_));rintro e1 w3 ⟨rfl,rfl⟩) | (go_at_call 20;((with_reducible refine(HAC.out).mono ?_));rintro e1 w4 ⟨rfl,rfl⟩))
   go_ret;exact⟨rfl,HB⟩
theorem match_any (R:Re) (A:Option Addr) (c:Nat) (w:World) (hk:Kids (Lt w.heap.size) w A R) (hs:sizeE R≤600) (s:ByteArray) (hl:s.size≤100):
  Calls Tryd.prog 9 #[valR R A c,.string s,.bool false,.bool false] w fun e' w'=>∃ v,e'= .returned (.bool v)∧(v=true ↔ RightP R∧Way s.data.toList false false R 0 s.size)∧Below w.heap.size w w':=by
 by_cases hr:RightP R
 ·refine(match_yes R A c w hk hs hr s hl false false).mono ?_
  rintro e' w' ⟨v,h1,h2,h3⟩;exact⟨v,h1,by rw[h2];exact⟨fun h=>⟨hr,h⟩,fun h=>h.2⟩,h3⟩
 ·refine(match_no R A c w hk hs hr s (by omega) false).mono ?_
  rintro e' w' ⟨h1,h2⟩;exact⟨false,h1,⟨fun h=>(by cases h),fun h=>absurd h.1 hr⟩,h2⟩
section
noncomputable def plW (R:Re) (s:Bs) (bg e:Bool) (n:Nat):List Nat:=(List.range n).filter fun i=>@decide (Way s bg e R 0 i) (Classical.propDecidable _)
def ints (l:List Nat):List Value:=l.map fun i=> .int .i64 (i:Nat)
theorem plW_yes {R:Re} {s:Bs} {bg e:Bool} {n:Nat} (h:Way s bg e R 0 n):plW R s bg e (n+1)=plW R s bg e n++[n]:=by
 unfold plW;rw[List.range_succ,List.filter_append,List.filter_cons,List.filter_nil,if_pos (by simpa using h)]
theorem plW_no {R:Re} {s:Bs} {bg e:Bool} {n:Nat} (h:¬ Way s bg e R 0 n):plW R s bg e (n+1)=plW R s bg e n:=by
 unfold plW;rw[List.range_succ,List.filter_append,List.filter_cons,List.filter_nil,if_neg (by simpa using h),List.append_nil]
theorem plW_len (R:Re) (s:Bs) (bg e:Bool) (n:Nat):(plW R s bg e n).length≤n:=by
 unfold plW;have:=List.length_filter_le (fun i=>@decide (Way s bg e R 0 i) (Classical.propDecidable _)) (List.range n);rwa [List.length_range] at this
theorem plW_dead {R:Re} {s:Bs} {bg e:Bool} {n:Nat}:∀ m,(∀ j,n≤j→¬ Way s bg e R 0 j)→plW R s bg e (n+m)=plW R s bg e n
 | 0,_=>rfl
 | m+1,h=>by rw[←Nat.add_assoc,plW_no (h _ (by omega)),plW_dead m h]
def EndR (R:Re) (s:ByteArray) (bg e:Bool) (B b j n:Nat) (M:MS) (v:Value) (w wr:World):Prop:=MatI R s bg e B b j M (fun k=>v.ownBlock=some k) w wr∧wr.ownsRow B 3 1 v (plW R s.data.toList bg e n).length (ints (plW R s.data.toList bg e n))
section
variable {R:Re} {s:ByteArray} {bg e:Bool} {B b j n:Nat} {M:MS} {v:Value} {w wr W:World}
theorem EndR.below (h:EndR R s bg e B b j n M v w wr) (hb:Below wr.heap.size wr W) (hB:B≤wr.heap.size):EndR R s bg e B b j n M v w W:=by
 obtain⟨⟨⟨PA,pc,TA,tp,vw,h1⟩,h2,h3⟩,h4⟩:=h;exact⟨⟨⟨PA,pc,TA,tp,vw,h1.below hb⟩,h2,h3.trans (hb.mono hB)⟩,below_kept h4 hb⟩
theorem EndR.acc (hr:RightP R) (hs:sizeE R≤600) (hl:s.size≤100) (hj:j≤s.size) (h:EndR R s bg e B b j n M v w wr) (hB:B≤wr.heap.size):
  Calls Tryd.prog 20 #[.pointer (some ⟨b,0,none⟩),.bool (e && decide (j=s.size))] wr fun e' w'=>∃ q,e'= .returned (.bool q)∧(q=true ↔ Way s.data.toList bg e R 0 j)∧EndR R s bg e B b j n M v w w':=by
 have h0:=h;obtain⟨⟨hm,hst,hb⟩,h4⟩:=h;have hf:=right_fine hr;have hlen:=len_data s;refine(accepts_any hm hf hst.turns (mat_waits hst) (mat_n hs hl hj) (by omega) (bg && decide (j=0)) (e && decide (j=s.size)) rfl).mono ?_;rintro e' w' ⟨q,rfl,⟨a1,a2⟩,h2⟩;refine⟨q,rfl,?_,h0.below h2 hB⟩;by_cases he:e=true∧j=s.size
 ·obtain⟨he1,hj1⟩:=he
  subst he1;have ea:(true && decide (j=s.size))=true:=by simp[hj1]
  rw[ea] at a1 a2;by_cases hov:M.over=true
  ·rw[a1 (.inl hov)]
   exact⟨fun _=>st_yes hst hov,fun _=>hov⟩
  ·have hov':M.over=false:=by simpa using hov
   obtain⟨S,hrun,hv⟩:=a2 hov' rfl;rw[hv];exact(st_end hf hst rfl (by rw[hlen];exact hj1) hov' rfl hrun).symm
 ·have ea:(e && decide (j=s.size))=false:=by
   cases e with
   | false=>rfl
   | true=>simp at he ⊢;exact he
  rw[a1 (.inr ea)];exact(st_over hst (by rw[hlen];exact he)).symm
theorem EndR.no (h:EndR R s bg e B b j j M v w wr) (hq:¬ Way s.data.toList bg e R 0 j):EndR R s bg e B b j (j+1) M v w wr:=by
 obtain⟨h1,h2⟩:=h;refine⟨h1,?_⟩;rw[plW_no hq];exact h2
theorem EndR.yes {g cap:Nat} {o:Obj} (h:EndR R s bg e B b j j M v w wr) (hq:Way s.data.toList bg e R 0 j) (hB:B≤wr.heap.size) (hown:W.ownsRow B 3 1 (.slice (some ⟨g,0,none⟩) ((plW R s.data.toList bg e j).length+1) cap) ((plW R s.data.toList bg e j).length+1) (ints (plW R s.data.toList bg e j)++[.int .i64 (j:Nat)])) (hg:(wr.alloc o).grownBy W v.ownBlock) (hat:v.ownBlock=some g∨g=(wr.alloc o).heap.size):
  EndR R s bg e B b j (j+1) M (.slice (some ⟨g,0,none⟩) ((plW R s.data.toList bg e j).length+1) cap) w W:=by
 obtain⟨⟨⟨PA,pc,TA,tp,vw,h1⟩,h2,h3⟩,h4⟩:=h;have hb:=one_box wr o;have hz:(wr.alloc o).heap.size=wr.heap.size+1:=by simp
 have hzg:=hg.size;refine⟨⟨⟨PA,pc,TA,tp,vw,h1.same (fun k hk hx=>?_) (by omega) (fun k hk=>?_)⟩,h2,h3.trans ?_⟩,?_⟩
 ·rw[hg.block k (by omega) (fun e=>hx e.symm)];exact hb.block k hk
 ·have:g=k:=by simpa[Value.ownBlock] using hk
  subst this
  rcases hat with h | h
  ·exact .inl h
  ·exact .inr ⟨by omega,(row_lt hown (g:=g) rfl).1⟩
 ·exact(hb.mono hB).grown hg (by omega) fun k hk=>(row_lt h4 hk).2
 ·rw[plW_yes hq,List.length_append]
  have e2:ints (plW R s.data.toList bg e j++[j])=ints (plW R s.data.toList bg e j)++[.int .i64 (j:Nat)]:=by simp[ints]
  rw[e2];exact hown
theorem EndR.next (hr:RightP R) (hs:sizeE R≤600) (hl:s.size≤100) (hj:j<s.size) (h:EndR R s bg e B b j n M v w wr):
  Calls Tryd.prog 19 #[.pointer (some ⟨b,0,none⟩),.int .u8 (s[j].toNat:Nat)] wr fun e' w'=>e'= .returned (.tuple #[])∧∃ M',EndR R s bg e B b (j+1) n M' v w w':=by
 obtain⟨h1,h4⟩:=h;have hvb:v.ownBlock≠some b:=by obtain⟨⟨PA,pc,TA,tp,vw,h5⟩,_⟩:=h1;exact h5.vx.1
 refine(mat_next hr hs hl hj h1).mono ?_;rintro e' w' ⟨rfl,M',k1,k2⟩;exact⟨rfl,M',k1,ownsRow_same h4 (fun g hg=>k2 g (row_lt h4 hg).1 (fun e=>hvb (by rw[←e];exact hg)))⟩
theorem EndR.dead (h:EndR R s bg e B b j j M v w wr) (hj:j≤s.size) (hd:(M.over || decide (0<M.waits.length))=false):wr.ownsRow B 3 1 v (plW R s.data.toList bg e (s.size+1)).length (ints (plW R s.data.toList bg e (s.size+1))):=by
 obtain⟨⟨_,hst,_⟩,h4⟩:=h;simp only[Bool.or_eq_false_iff,decide_eq_false_iff_not,Nat.not_lt,Nat.le_zero_eq,List.length_eq_zero_iff] at hd;have:=plW_dead (R:=R) (s:=s.data.toList) (bg:=bg) (e:=e) (n:=j) (s.size+1 - j) (fun i hi=>st_dead hst hd.1 hd.2 hi);rw[show j+(s.size+1 - j)=s.size+1 by omega] at this;rw[this];exact h4
end
end
theorem ends_yes (R:Re) (A:Option Addr) (c:Nat) (w:World) (hk:Kids (Lt w.heap.size) w A R) (hs:sizeE R≤600) (hr:RightP R) (s:ByteArray) (hl:s.size≤100) (bg e:Bool):
  Calls Tryd.prog 12 #[valR R A c,.string s,.bool bg,.bool e] w fun e' w'=>∃ v,e'= .returned v∧w'.ownsRow w.heap.size 3 1 v (plW R s.data.toList bg e (s.size+1)).length (ints (plW R s.data.toList bg e (s.size+1)))∧Below w.heap.size w w':=by
 obtain⟨k,S,ks,lo,hi,n⟩:=R;obtain⟨r,hrr⟩:∃ r,r=Re.mk k S ks lo hi n:=⟨_,rfl⟩;rw[←hrr] at hk hs hr ⊢;obtain⟨ln,hln⟩:∃ ln,ln=ks.length:=⟨_,rfl⟩;obtain⟨s0,hs0⟩:∃ s0:Int,s0=S.1.toNat:=⟨_,rfl⟩;obtain⟨s1,hs1⟩:∃ s1:Int,s1=S.2.1.toNat:=⟨_,rfl⟩;obtain⟨s2,hs2'⟩:∃ s2:Int,s2=S.2.2.1.toNat:=⟨_,rfl⟩;obtain⟨s3,hs3⟩:∃ s3:Int,s3=S.2.2.2.toNat:=⟨_,rfl⟩;have hval:valR r A c= .agg #[.int .i64 k,.int .u64 s0,.int .u64 s1,.int .u64 s2,.int .u64 s3,.slice A ln c,.int .i64 lo,.int .i64 hi,.int .i64 n]:=by rw[hrr,hln,hs0,hs1,hs2',hs3];rfl
 rw[hval];obtain⟨W1,hW1⟩:∃ W1,W1=w.alloc (.cells #[.int .i64 k,.int .u64 s0,.int .u64 s1,.int .u64 s2,.int .u64 s3,.slice A ln c,.int .i64 lo,.int .i64 hi,.int .i64 n] 29):=⟨_,rfl⟩;have hb1:Below w.heap.size w W1:=by rw[hW1];exact one_box w _
 have hz1:W1.heap.size=w.heap.size+1:=by rw[hW1];simp
 obtain⟨bb,hbb⟩:∃ bb,bb=w.heap.size+1+1:=⟨_,rfl⟩;obtain⟨pl,hpl⟩:∃ pl:Nat→List Nat,pl=plW r s.data.toList bg e:=⟨_,rfl⟩;obtain⟨EI,hEI⟩:∃ EI:Nat→Nat→MS→Value→World→Prop,EI=fun j n M v wr=>EndR r s bg e w.heap.size bb j n M v w wr:=⟨_,rfl⟩
 have hsz:∀ j n M v wr,EI j n M v wr→w.heap.size≤wr.heap.size:=fun j n M v wr h=>by rw[hEI] at h;exact h.1.2.2.size
 have HNEW:Hid (Calls Tryd.prog 14 #[.agg #[.int .i64 k,.int .u64 s0,.int .u64 s1,.int .u64 s2,.int .u64 s3,.slice A ln c,.int .i64 lo,.int .i64 hi,.int .i64 n],.bool bg] W1 fun e' w'=>e'= .returned (.pointer (some ⟨bb,0,none⟩))∧∃ M,Hid (EI 0 0 M (.slice none 0 0) w')):=Lib.hid (by
  have:=new_yes r A c W1 (hk.next hb1) hs hr bg;rw[hval,hz1,←hbb] at this;refine this.mono ?_;rintro e' w' ⟨rfl,hp⟩;obtain⟨M,⟨PA,pc,TA,tp,vw,h1⟩,h2,h3⟩:=mat_new (s:=s) (e:=e) hr hp;refine⟨rfl,M,Lib.hid ?_⟩;rw[hEI];refine⟨⟨⟨PA,pc,TA,tp,vw,MacAt.same (X:=fun _=>False) ⟨h1.mac,h1.parts,h1.turns,⟨h1.row.1,h1.row.2.imp id (fun ⟨gg,cc,cur,a,b,r⟩=>⟨gg,cc,cur,a,by omega,r⟩)⟩,h1.vb,h1.vx,⟨by have:=h1.bB;omega,h1.bB.2⟩,h1.len,h1.ws,h1.wl⟩ (fun _ _ _=>rfl) (Nat.le_refl _) (fun k hk=>by simp[Value.ownBlock] at hk)⟩,h2,hb1.trans (h3.mono (by omega))⟩,World.ownsRow_nil _ _ _ _⟩)
 have HAL:Hid (∀ (j n:Nat) (M:MS) (v:Value) (wr:World),EI j n M v wr→Calls Tryd.prog 15 #[.pointer (some ⟨bb,0,none⟩)] wr fun e' w'=>e'= .returned (.bool (M.over || decide (0<M.waits.length)))∧w'=wr):=Lib.hid fun j n M v wr h=>by rw[hEI] at h;exact alive_any h.1.1
 have HNX:Hid (∀ (j n:Nat) (M:MS) (v:Value) (wr:World) (hi:j<s.size),EI j n M v wr→Calls Tryd.prog 19 #[.pointer (some ⟨bb,0,none⟩),.int .u8 (s[j].toNat:Nat)] wr fun e' w'=>e'= .returned (.tuple #[])∧∃ M',Hid (EI (j+1) n M' v w')):=Lib.hid fun j n M v wr hi h=>by
  rw[hEI] at h ⊢;exact(h.next hr hs hl hi).mono fun e' w' ⟨a,M',b⟩=>⟨a,M',Lib.hid b⟩
 have HAC:Hid (∀ (j:Nat) (M:MS) (v:Value) (wr:World),j≤s.size→EI j j M v wr→Calls Tryd.prog 20 #[.pointer (some ⟨bb,0,none⟩),.bool (e && decide (j=s.size))] wr fun e' w'=>∃ q,e'= .returned (.bool q)∧Hid (EI j j M v w')∧(q=false→Hid (EI j (j+1) M v w'))∧(q=true→∃ A cap,v= .slice A (pl j).length cap∧(∀ o,Hid ((w'.alloc o).ownsRow w.heap.size 3 1 v (pl j).length (ints (pl j))))∧Hid (w.heap.size≤w'.heap.size)∧Hid ((pl j).length≤1000)∧
   ∀ (o:Obj) (g cap:Nat) (W:World),W.ownsRow w.heap.size 3 1 (.slice (some ⟨g,0,none⟩) ((pl j).length+1) cap) ((pl j).length+1) (ints (pl j)++[.int .i64 (j:Nat)])→(w'.alloc o).grownBy W v.ownBlock→(v.ownBlock=some g∨g=(w'.alloc o).heap.size)→EI j (j+1) M (.slice (some ⟨g,0,none⟩) ((pl j).length+1) cap) W)):=Lib.hid fun j M v wr hj h=>by
  have hz:=hsz _ _ _ _ _ h;rw[hEI] at h ⊢;refine(h.acc hr hs hl hj hz).mono ?_;rintro e' w' ⟨q,h1,h2,h3⟩;have hz':w.heap.size≤w'.heap.size:=h3.1.2.2.size;refine⟨q,h1,Lib.hid h3,fun hq=>Lib.hid (h3.no (fun hw=>by have:=h2.2 hw;rw[hq] at this;cases this)),fun hq=>?_⟩;obtain⟨A,cap,hv⟩:=row_slice h3.2;rw[hpl];refine⟨A,cap,hv,fun o=>Lib.hid (below_kept h3.2 (one_box _ _)),Lib.hid hz',Lib.hid (by have:=plW_len r s.data.toList bg e j;omega),fun o g cap W g1 g2 g3=>h3.yes (h2.1 hq) hz' g1 g2 g3⟩
 have HDEAD:Hid (∀ (j:Nat) (M:MS) (v:Value) (wr:World),j≤s.size→EI j j M v wr→(M.over || decide (0<M.waits.length))=false→wr.ownsRow w.heap.size 3 1 v (pl (s.size+1)).length (ints (pl (s.size+1)))∧Below w.heap.size w wr):=Lib.hid fun j M v wr hj h hd=>by
  rw[hEI] at h;rw[hpl];exact⟨h.dead hj hd,h.1.2.2⟩
 have HFIN:Hid (∀ (M:MS) (v:Value) (wr:World),EI s.size (s.size+1) M v wr→wr.ownsRow w.heap.size 3 1 v (pl (s.size+1)).length (ints (pl (s.size+1)))∧Below w.heap.size w wr):=Lib.hid fun M v wr h=>by
  rw[hEI] at h;rw[hpl];exact⟨h.2,h.1.2.2⟩
 suffices hs:Calls Tryd.prog 12 #[.agg #[.int .i64 k,.int .u64 s0,.int .u64 s1,.int .u64 s2,.int .u64 s3,.slice A ln c,.int .i64 lo,.int .i64 hi,.int .i64 n],.string s,.bool bg,.bool e] w fun e' w'=>∃ v,e'= .returned v∧Hid (w'.ownsRow w.heap.size 3 1 v (pl (s.size+1)).length (ints (pl (s.size+1)))∧Below w.heap.size w w') from hs.mono fun e' w' ⟨v,h1,h2⟩=>⟨v,h1,by rw[←hpl];exact h2.out.1,h2.out.2⟩
 rw[hW1] at HNEW;obtain⟨i0,hi0,hq0,hq1,hq2⟩:=info_parts info3;clear hbb hz1 hb1 hW1 hval hs0 hs1 hs2' hs3 hln hk hs hr hrr hpl hEI hsz;go_enter Tryd.func12,Tryd.ntmps12;go_wp2_with (go_at_call 14;((with_reducible refine(HNEW.out).mono ?_));rintro e1 w2 ⟨rfl,M0,HM0⟩)
 go_loopw [9,11] (fun v i wr=>∃ (j:Nat) (M:MS),j≤s.size∧i= .int .i64 (j:Nat)∧Hid (EI j j M v wr)) (fun _ i _=>s.size - (intOf i).toNat)
 case atStart=>exact⟨0,M0,Nat.zero_le _,rfl,HM0⟩
 case round=>
  obtain⟨j,M,hj,rfl,HMJ⟩:=hrel;have HJ:=Lib.hid hj;have hal:=HAL.out j j M _ wr HMJ.out;obtain⟨al,hal2⟩:∃ al,al=(M.over || decide (0<M.waits.length)):=⟨_,rfl⟩;rw[←hal2] at hal;have HA:=Lib.hid hal;have HA2:=Lib.hid hal2;clear hal hal2
  cases al with
  | false=>
    have HD:=Lib.hid (HDEAD.out j M _ wr hj HMJ.out HA2.out.symm);go_wp2_with (go_at_call 15;((with_reducible refine(HA.out).mono ?_));rintro e1 w3 ⟨rfl,rfl⟩);go_ret;exact⟨_,rfl,HD⟩
  | true=>
    by_cases hje:j=s.size
    ·subst hje
     have hac:=HAC.out s.size M _ wr (Nat.le_refl _) HMJ.out;have hea:(e && decide (s.size=s.size))=e:=by simp
     rw[hea] at hac;have HAC2:=Lib.hid hac;clear hac hea hj
     cases e with
     | false=>
       go_wp2_with (first | (go_at_call 15;((with_reducible refine(HA.out).mono ?_));rintro e1 w3 ⟨rfl,rfl⟩) | fail);refine(HAC2.out).mono ?_;rintro e1 w4 ⟨q,rfl,HE4,hno,hyes⟩
       cases q with
       | false=>
         have HN4:=hno rfl;clear hno hyes;go_wp2;go_ret;exact⟨_,rfl,Lib.hid (HFIN.out _ _ _ HN4.out)⟩
       | true=>
         obtain⟨A4,cap4,rfl,hrow,HZ4,HPL,happ⟩:=hyes rfl;have HROW:=Lib.hid hrow;have HAPP:=Lib.hid happ;have hpl4:=HPL.out;obtain⟨pn,hpn⟩:∃ pn,pn=(pl s.size).length:=⟨_,rfl⟩;rw[←hpn] at HROW HAPP hpl4 ⊢;clear hno hyes hrow happ hpn;go_wp2_with (first | (at_builtin;refine wpList_append_lies _ rfl (.tmp 28) (.tmp 30) 37 rfl w.heap.size 3 i0 (.int .i64 0) 1 8 Tryd.underlying37 hi0 hq0 hq1 hq2 rfl (by decide) _ _ _ rfl (HROW.out _).out ⟨w4.heap.size,0,none⟩ 1 1 [.int .i64 (s.size:Nat)] rfl rfl (fun i u hu=>new_cells w4 3 #[.int .i64 (s.size:Nat)] i u hu) (fun u hu=>by rw[List.mem_singleton] at hu;subst hu;rfl) (by decide) (by unfold maxLen;omega) (by omega) (by have:=HZ4.out;simp;omega) _ rfl ?_;intro g3 cap3 w5 hown hgrow hat hlt;have HE5:=Lib.hid (HAPP.out _ g3 cap3 w5 hown hgrow hat);clear hown hgrow hat hlt) | fail);go_ret;exact⟨_,rfl,Lib.hid (HFIN.out _ _ _ HE5.out)⟩
     | true=>
       go_wp2_with (first | (go_at_call 15;((with_reducible refine(HA.out).mono ?_));rintro e1 w3 ⟨rfl,rfl⟩) | fail);refine(HAC2.out).mono ?_;rintro e1 w4 ⟨q,rfl,HE4,hno,hyes⟩
       cases q with
       | false=>
         have HN4:=hno rfl;clear hno hyes;go_wp2;go_ret;exact⟨_,rfl,Lib.hid (HFIN.out _ _ _ HN4.out)⟩
       | true=>
         obtain⟨A4,cap4,rfl,hrow,HZ4,HPL,happ⟩:=hyes rfl;have HROW:=Lib.hid hrow;have HAPP:=Lib.hid happ;have hpl4:=HPL.out;obtain⟨pn,hpn⟩:∃ pn,pn=(pl s.size).length:=⟨_,rfl⟩;rw[←hpn] at HROW HAPP hpl4 ⊢;clear hno hyes hrow happ hpn;go_wp2_with (first | (at_builtin;refine wpList_append_lies _ rfl (.tmp 28) (.tmp 30) 37 rfl w.heap.size 3 i0 (.int .i64 0) 1 8 Tryd.underlying37 hi0 hq0 hq1 hq2 rfl (by decide) _ _ _ rfl (HROW.out _).out ⟨w4.heap.size,0,none⟩ 1 1 [.int .i64 (s.size:Nat)] rfl rfl (fun i u hu=>new_cells w4 3 #[.int .i64 (s.size:Nat)] i u hu) (fun u hu=>by rw[List.mem_singleton] at hu;subst hu;rfl) (by decide) (by unfold maxLen;omega) (by omega) (by have:=HZ4.out;simp;omega) _ rfl ?_;intro g3 cap3 w5 hown hgrow hat hlt;have HE5:=Lib.hid (HAPP.out _ g3 cap3 w5 hown hgrow hat);clear hown hgrow hat hlt) | fail);go_ret;exact⟨_,rfl,Lib.hid (HFIN.out _ _ _ HE5.out)⟩
    ·have hac:=HAC.out j M _ wr hj HMJ.out
     have hea:(e && decide (j=s.size))=false:=by simp[hje]
     rw[hea] at hac;have HAC2:=Lib.hid hac;have HLT:Hid (j<s.size):=Lib.hid (by omega);have hlt2:j<s.size:=HLT.out;have b1:((j:Int)==(s.size:Int))=false:=by simp;omega
     have b1':(j==s.size)=false:=by simpa using hje
     clear hac hea hje
     cases e with
     | false=>
       go_wp2_with (first | (go_at_call 15;((with_reducible refine(HA.out).mono ?_));rintro e1 w3 ⟨rfl,rfl⟩) | fail);refine(HAC2.out).mono ?_;rintro e1 w4 ⟨q,rfl,HE4,hno,hyes⟩
       cases q with
       | false=>
         have HN4:=hno rfl;clear hno hyes;have HX4:=Lib.hid (HNX.out j (j+1) M _ w4 HLT.out HN4.out);go_wp2_with (first | (go_at_call 19;((with_reducible refine(HX4.out).mono ?_));rintro e1 w6 ⟨rfl,M9,HM9⟩) | fail)
         go_roundw
         case rel=>exact⟨j+1,M9,by have:=HLT.out;omega,by go_num,HM9⟩
         case measure=>have:=HLT.out;simp[intOf];omega
       | true=>
         obtain⟨A4,cap4,rfl,hrow,HZ4,HPL,happ⟩:=hyes rfl;have HROW:=Lib.hid hrow;have HAPP:=Lib.hid happ;have hpl4:=HPL.out;obtain⟨pn,hpn⟩:∃ pn,pn=(pl j).length:=⟨_,rfl⟩;rw[←hpn] at HROW HAPP hpl4 ⊢;clear hno hyes hrow happ hpn;go_wp2_with (first | (at_builtin;refine wpList_append_lies _ rfl (.tmp 28) (.tmp 30) 37 rfl w.heap.size 3 i0 (.int .i64 0) 1 8 Tryd.underlying37 hi0 hq0 hq1 hq2 rfl (by decide) _ _ _ rfl (HROW.out _).out ⟨w4.heap.size,0,none⟩ 1 1 [.int .i64 (j:Nat)] rfl rfl (fun i u hu=>new_cells w4 3 #[.int .i64 (j:Nat)] i u hu) (fun u hu=>by rw[List.mem_singleton] at hu;subst hu;rfl) (by decide) (by unfold maxLen;omega) (by omega) (by have:=HZ4.out;simp;omega) _ rfl ?_;intro g3 cap3 w5 hown hgrow hat hlt;have HE5:=Lib.hid (HAPP.out _ g3 cap3 w5 hown hgrow hat);have HX5:=Lib.hid (HNX.out j (j+1) M _ w5 HLT.out HE5.out);clear hown hgrow hat hlt) | (go_at_call 19;((with_reducible refine(HX5.out).mono ?_));rintro e1 w6 ⟨rfl,M9,HM9⟩) | fail)
         go_roundw
         case rel=>exact⟨j+1,M9,by have:=HLT.out;omega,by go_num,HM9⟩
         case measure=>have:=HLT.out;simp[intOf];omega
     | true=>
       go_wp2_with (first | (go_at_call 15;((with_reducible refine(HA.out).mono ?_));rintro e1 w3 ⟨rfl,rfl⟩) | fail);refine(HAC2.out).mono ?_;rintro e1 w4 ⟨q,rfl,HE4,hno,hyes⟩
       cases q with
       | false=>
         have HN4:=hno rfl;clear hno hyes;have HX4:=Lib.hid (HNX.out j (j+1) M _ w4 HLT.out HN4.out);go_wp2_with (first | (go_at_call 19;((with_reducible refine(HX4.out).mono ?_));rintro e1 w6 ⟨rfl,M9,HM9⟩) | fail)
         go_roundw
         case rel=>exact⟨j+1,M9,by have:=HLT.out;omega,by go_num,HM9⟩
         case measure=>have:=HLT.out;simp[intOf];omega
       | true=>
         obtain⟨A4,cap4,rfl,hrow,HZ4,HPL,happ⟩:=hyes rfl;have HROW:=Lib.hid hrow;have HAPP:=Lib.hid happ;have hpl4:=HPL.out;obtain⟨pn,hpn⟩:∃ pn,pn=(pl j).length:=⟨_,rfl⟩;rw[←hpn] at HROW HAPP hpl4 ⊢;clear hno hyes hrow happ hpn;go_wp2_with (first | (at_builtin;refine wpList_append_lies _ rfl (.tmp 28) (.tmp 30) 37 rfl w.heap.size 3 i0 (.int .i64 0) 1 8 Tryd.underlying37 hi0 hq0 hq1 hq2 rfl (by decide) _ _ _ rfl (HROW.out _).out ⟨w4.heap.size,0,none⟩ 1 1 [.int .i64 (j:Nat)] rfl rfl (fun i u hu=>new_cells w4 3 #[.int .i64 (j:Nat)] i u hu) (fun u hu=>by rw[List.mem_singleton] at hu;subst hu;rfl) (by decide) (by unfold maxLen;omega) (by omega) (by have:=HZ4.out;simp;omega) _ rfl ?_;intro g3 cap3 w5 hown hgrow hat hlt;have HE5:=Lib.hid (HAPP.out _ g3 cap3 w5 hown hgrow hat);have HX5:=Lib.hid (HNX.out j (j+1) M _ w5 HLT.out HE5.out);clear hown hgrow hat hlt) | (go_at_call 19;((with_reducible refine(HX5.out).mono ?_));rintro e1 w6 ⟨rfl,M9,HM9⟩) | fail)
         go_roundw
         case rel=>exact⟨j+1,M9,by have:=HLT.out;omega,by go_num,HM9⟩
         case measure=>have:=HLT.out;simp[intOf];omega
theorem new_acc (R:Re) (A:Option Addr) (c:Nat) (w:World) (hk:Kids (Lt w.heap.size) w A R) (hs:sizeE R≤600) (hr:RightP R) (bg:Bool):
  Calls Tryd.prog 14 #[valR R A c,.bool bg] w fun e w1=>e= .returned (.pointer (some ⟨w.heap.size+1,0,none⟩))∧Below w.heap.size w w1∧
   Hid (Calls Tryd.prog 20 #[.pointer (some ⟨w.heap.size+1,0,none⟩),.bool false] w1 fun e w'=>∃ v,e= .returned (.bool v)∧(v=true ↔ Way [] bg false R 0 0)∧Below w.heap.size w w')∧
   ((∃ s:ByteArray,Way s.data.toList bg true R 0 s.size)→Hid (Calls Tryd.prog 15 #[.pointer (some ⟨w.heap.size+1,0,none⟩)] w1 fun e w'=>e= .returned (.bool true)∧w'=w1)):=by
 refine(new_yes R A c w hk hs hr bg).mono ?_;rintro e w1 ⟨rfl,hp⟩;have hb:Below w.heap.size w w1:=by obtain⟨S,ws',K,h1,h2,h3,h4⟩:=hp;exact h4
 refine⟨rfl,hb,Lib.hid ?_,fun ⟨s,hs⟩=>Lib.hid ?_⟩
 ·obtain⟨M,hm⟩:=mat_new (s:=⟨#[]⟩) (e:=false) hr hp
  exact mat_acc hr hs (by decide) (Nat.zero_le _) hm (.inl rfl) hb.size
 ·obtain⟨M,hm⟩:=mat_new (s:=s) (e:=true) hr hp
  have hal:(M.over || decide (0<M.waits.length))=true:=by
   cases h:(M.over || decide (0<M.waits.length)) with
   | true=>rfl
   | false=>
     simp only[Bool.or_eq_false_iff,decide_eq_false_iff_not,Nat.not_lt,Nat.le_zero_eq,List.length_eq_zero_iff] at h;exact absurd hs (st_dead hm.2.1 h.1 h.2 (Nat.zero_le _))
  have:=alive_any hm.1;rw[hal] at this;exact this
theorem nothing_yes (R:Re) (A:Option Addr) (c:Nat) (w:World) (hk:Kids (Lt w.heap.size) w A R) (hs:sizeE R≤600) (hr:RightP R):
  Calls Tryd.prog 13 #[valR R A c] w fun e w'=>∃ v,e= .returned (.bool v)∧(v=true ↔ Way [] false false R 0 0)∧Below w.heap.size w w':=by
 obtain⟨k,S,ks,lo,hi,n⟩:=R;obtain⟨r,hrr⟩:∃ r,r=Re.mk k S ks lo hi n:=⟨_,rfl⟩;rw[←hrr] at hk hs hr ⊢;obtain⟨ln,hln⟩:∃ ln,ln=ks.length:=⟨_,rfl⟩;obtain⟨s0,hs0⟩:∃ s0:Int,s0=S.1.toNat:=⟨_,rfl⟩;obtain⟨s1,hs1⟩:∃ s1:Int,s1=S.2.1.toNat:=⟨_,rfl⟩;obtain⟨s2,hs2'⟩:∃ s2:Int,s2=S.2.2.1.toNat:=⟨_,rfl⟩;obtain⟨s3,hs3⟩:∃ s3:Int,s3=S.2.2.2.toNat:=⟨_,rfl⟩;have hval:valR r A c= .agg #[.int .i64 k,.int .u64 s0,.int .u64 s1,.int .u64 s2,.int .u64 s3,.slice A ln c,.int .i64 lo,.int .i64 hi,.int .i64 n]:=by rw[hrr,hln,hs0,hs1,hs2',hs3];rfl
 rw[hval];obtain⟨W1,hW1⟩:∃ W1,W1=w.alloc (.cells #[.int .i64 k,.int .u64 s0,.int .u64 s1,.int .u64 s2,.int .u64 s3,.slice A ln c,.int .i64 lo,.int .i64 hi,.int .i64 n] 29):=⟨_,rfl⟩;have hb1:Below w.heap.size w W1:=by rw[hW1];exact one_box w _
 have hz1:W1.heap.size=w.heap.size+1:=by rw[hW1];simp
 obtain⟨bb,hbb⟩:∃ bb,bb=w.heap.size+1+1:=⟨_,rfl⟩
 have HNEW:Hid (Calls Tryd.prog 14 #[.agg #[.int .i64 k,.int .u64 s0,.int .u64 s1,.int .u64 s2,.int .u64 s3,.slice A ln c,.int .i64 lo,.int .i64 hi,.int .i64 n],.bool false] W1 fun e' w1=>e'= .returned (.pointer (some ⟨bb,0,none⟩))∧Hid (Calls Tryd.prog 20 #[.pointer (some ⟨bb,0,none⟩),.bool false] w1 fun e w'=>∃ v,e= .returned (.bool v)∧Hid (v=true ↔ Way [] false false r 0 0)∧Hid (Below w.heap.size w w'))):=Lib.hid (by
  have:=new_acc r A c W1 (hk.next hb1) hs hr false;rw[hval,hz1,←hbb] at this;refine this.mono ?_;rintro e' w1 ⟨rfl,h1,h2,_⟩;exact⟨rfl,Lib.hid (h2.out.mono fun e w' ⟨v,a,b,c⟩=>⟨v,a,Lib.hid b,Lib.hid (hb1.trans (c.mono (by omega)))⟩)⟩)
 suffices hs:Calls Tryd.prog 13 #[.agg #[.int .i64 k,.int .u64 s0,.int .u64 s1,.int .u64 s2,.int .u64 s3,.slice A ln c,.int .i64 lo,.int .i64 hi,.int .i64 n]] w fun e w'=>∃ v,e= .returned (.bool v)∧Hid (v=true ↔ Way [] false false r 0 0)∧Hid (Below w.heap.size w w') from hs.mono fun e' w' ⟨v,h1,h2,h3⟩=>⟨v,h1,h2.out,h3.out⟩
 rw[hW1] at HNEW;clear hbb hz1 hb1 hW1 hval hs0 hs1 hs2' hs3 hln hk hs hr hrr;go_enter Tryd.func13,Tryd.ntmps13;go_wp2_with (first | (go_at_call 14;((with_reducible refine(HNEW.out).mono ?_));rintro e1 w2 ⟨rfl,HA⟩) | (go_at_call 20;((with_reducible refine(HA.out).mono ?_));rintro e1 w3 ⟨v,rfl,HV,HB⟩));go_ret;exact⟨v,rfl,HV,HB⟩
def bS (c:Nat):Re:= .mk 1 (ins none4 c) [] 0 0 0
def rC:Re:= .mk 4 none4 [.mk 7 none4 [.mk 5 none4 [.mk 4 none4 [bS 97,bS 98] 0 0 0,bS 97] 0 0 0] 0 0 1,.mk 7 none4 [.mk 5 none4 [bS 99,.mk 4 none4 [bS 98,bS 99,bS 100] 0 0 0] 0 0 0] 0 0 2] 0 0 0
def rS:Re:= .mk 6 none4 [bS 97] 0 (-1) 0
theorem rc_form:form rC 3 0 0=some 2:=by decide+kernel
theorem rc_text:textE rC=[40,97,98,124,97,41,40,99,124,98,99,100,41]:=by decide+kernel
theorem rs_form:form rS 3 0 0=some 0:=by decide+kernel
theorem rs_text:textE rS=[97,42]:=by decide+kernel
theorem rc_size:sizeE rC≤600:=by decide+kernel
theorem rs_size:sizeE rS≤600:=by decide+kernel
theorem rc_right:RightP rC:=⟨⟨2,rc_form⟩,by rw[rc_text];decide⟩
theorem rs_right:RightP rS:=⟨⟨0,rs_form⟩,by rw[rs_text];decide⟩
theorem rc_read:parseE [40,97,98,124,97,41,40,99,124,98,99,100,41]=(some rC,0,0):=by
 have:=parse_text_form rc_form (by rw[rc_text];decide);rw[rc_text] at this;exact this
theorem rs_read:parseE [97,42]=(some rS,0,0):=by
 have:=parse_text_form rs_form (by rw[rs_text];decide);rw[rs_text] at this;exact this
theorem mem_all:∀ c,c∈[97,98,99,100]→∀ n,n<256→mem (ins none4 c) n=decide (n=c):=by decide+kernel
theorem way_b {s:Bs} {b e:Bool} {c i j:Nat} (hc:c∈[97,98,99,100]):Way s b e (bS c) i j ↔ ∃ x:UInt8,s[i]?=some x∧x.toNat=c∧j=i+1:=by
 unfold bS;rw[Way];simp only[show ¬ ((1:Int)=0) by decide,if_false,if_true]
 constructor
 ·rintro⟨x,h1,h2,h3⟩
  rw[mem_all c hc _ (UInt8.toNat_lt x)] at h2;exact⟨x,h1,by simpa using h2,h3⟩
 ·rintro⟨x,h1,h2,h3⟩
  exact⟨x,h1,by rw[mem_all c hc _ (UInt8.toNat_lt x)];simpa using h2,h3⟩
theorem rc_yes:Way [97,98,99,100] true true rC 0 4:=by
 unfold rC;simp only[Way,WayL,WayA];simp only[show ¬ ((4:Int)=0) by decide,show ¬ ((4:Int)=1) by decide,show ¬ ((4:Int)=2) by decide,show ¬ ((4:Int)=3) by decide,show ¬ ((4:Int)=5) by decide,show ¬ ((4:Int)=6) by decide,show ¬ ((7:Int)=0) by decide,show ¬ ((7:Int)=1) by decide,show ¬ ((7:Int)=2) by decide,show ¬ ((7:Int)=3) by decide,show ¬ ((7:Int)=5) by decide,show ¬ ((7:Int)=6) by decide,show ¬ ((5:Int)=0) by decide,show ¬ ((5:Int)=1) by decide,show ¬ ((5:Int)=2) by decide,show ¬ ((5:Int)=3) by decide,if_false,if_true,or_false];refine⟨1,⟨1,.inr ((way_b (by decide)).2 ⟨97,rfl,rfl,rfl⟩),rfl⟩,4,⟨4,.inr ⟨2,(way_b (by decide)).2 ⟨98,rfl,rfl,rfl⟩,3,(way_b (by decide)).2 ⟨99,rfl,rfl,rfl⟩,4,(way_b (by decide)).2 ⟨100,rfl,rfl,rfl⟩,rfl⟩,rfl⟩,rfl⟩
theorem rc_no:¬ Way [97,98,100] true true rC 0 3:=by
 unfold rC;simp only[Way,WayL,WayA];simp only[show ¬ ((4:Int)=0) by decide,show ¬ ((4:Int)=1) by decide,show ¬ ((4:Int)=2) by decide,show ¬ ((4:Int)=3) by decide,show ¬ ((4:Int)=5) by decide,show ¬ ((4:Int)=6) by decide,show ¬ ((7:Int)=0) by decide,show ¬ ((7:Int)=1) by decide,show ¬ ((7:Int)=2) by decide,show ¬ ((7:Int)=3) by decide,show ¬ ((7:Int)=5) by decide,show ¬ ((7:Int)=6) by decide,show ¬ ((5:Int)=0) by decide,show ¬ ((5:Int)=1) by decide,show ¬ ((5:Int)=2) by decide,show ¬ ((5:Int)=3) by decide,if_false,if_true,or_false];rintro⟨m,⟨m1,h1,rfl⟩,m2,⟨m3,h2,rfl⟩,rfl⟩
 have hm:m1=2∨m1=1:=by
  rcases h1 with ⟨a,h3,b,h4,rfl⟩ | h3
  ·obtain⟨x,g1,g2,rfl⟩:=(way_b (by decide)).1 h3
   obtain⟨y,g3,g4,rfl⟩:=(way_b (by decide)).1 h4;exact .inl rfl
  ·obtain⟨x,g1,g2,rfl⟩:=(way_b (by decide)).1 h3
   exact .inr rfl
 rcases h2 with h2 | ⟨a,h3,b,h4,c,h5,h6⟩
 ·obtain⟨x,g1,g2,g3⟩:=(way_b (by decide)).1 h2
  rcases hm with rfl | rfl
  ·injection g1 with g1;subst g1;exact absurd g2 (by decide)
  ·injection g1 with g1;subst g1;exact absurd g2 (by decide)
 ·obtain⟨x,g1,g2,rfl⟩:=(way_b (by decide)).1 h3
  obtain⟨y,g3,g4,rfl⟩:=(way_b (by decide)).1 h4
  rcases hm with rfl | rfl
  ·injection g1 with g1;subst g1;exact absurd g2 (by decide)
  ·injection g3 with g3;subst g3;exact absurd g4 (by decide)
theorem times_a {s:Bs} {b e:Bool}:∀ n i j,TimesW (WayL s b e [bS 97]) n i j→i≤j∧∀ k,i≤k→k<j→∃ x:UInt8,s[k]?=some x∧x.toNat=97
 | 0,i,j,h=>by rw[TimesW] at h;subst h;exact⟨Nat.le_refl _,fun k h1 h2=>by omega⟩
 | n+1,i,j,h=>by
   rw[TimesW] at h;obtain⟨m,h1,h2⟩:=h;rw[WayL] at h1;obtain⟨m',h1,h3⟩:=h1;rw[WayL] at h3;subst h3;obtain⟨x,g1,g2,rfl⟩:=(way_b (by decide)).1 h1;obtain⟨a1,a2⟩:=times_a n _ j h2;refine⟨by omega,fun k k1 k2=>?_⟩;by_cases hk:k=i
   ·subst hk;exact⟨x,g1,g2⟩
   ·exact a2 k (by omega) k2
theorem way_s {s:Bs} {b e:Bool} {i j:Nat}:Way s b e rS i j ↔ ∃ n:Nat,TimesW (WayL s b e [bS 97]) n i j:=by
 unfold rS;rw[Way];simp only[show ¬ ((6:Int)=0) by decide,show ¬ ((6:Int)=1) by decide,show ¬ ((6:Int)=2) by decide,show ¬ ((6:Int)=3) by decide,show ¬ ((6:Int)=5) by decide,if_false,if_true]
 constructor
 ·rintro⟨n,_,_,h⟩;exact⟨n,h⟩
 ·rintro⟨n,h⟩;exact⟨n,by omega,.inl (by decide),h⟩
theorem step_a {s:Bs} {b e:Bool} {i:Nat} {x:UInt8} (h:s[i]?=some x) (hx:x.toNat=97):WayL s b e [bS 97] i (i+1):=by
 rw[WayL];exact⟨i+1,(way_b (by decide)).2 ⟨x,h,hx,rfl⟩,by rw[WayL]⟩
theorem rs_places:plW rS [97,97,98] true true 4=[0,1,2]:=by
 have w0:Way [97,97,98] true true rS 0 0:=way_s.2 ⟨0,rfl⟩;have w1:Way [97,97,98] true true rS 0 1:=way_s.2 ⟨1,1,step_a rfl rfl,rfl⟩;have w2:Way [97,97,98] true true rS 0 2:=way_s.2 ⟨2,1,step_a rfl rfl,2,step_a rfl rfl,rfl⟩
 have w3:¬ Way [97,97,98] true true rS 0 3:=by
  intro h;obtain⟨n,h⟩:=way_s.1 h;obtain⟨x,g1,g2⟩:=(times_a n 0 3 h).2 2 (by decide) (by decide);injection g1 with g1;subst g1;exact absurd g2 (by decide)
 rw[plW_no w3,plW_yes w2,plW_yes w1,plW_yes w0]
 rfl
theorem rs_nothing:Way [] false false rS 0 0:=way_s.2 ⟨0,rfl⟩
theorem val_re (x:Re):∃ (k s0 s1 s2 s3:Int) (m:Nat) (lo hi n:Int),∀ (A:Option Addr) (c:Nat),valR x A c= .agg #[.int .i64 k,.int .u64 s0,.int .u64 s1,.int .u64 s2,.int .u64 s3,.slice A m c,.int .i64 lo,.int .i64 hi,.int .i64 n]:=by
 obtain⟨k,S,ks,lo,hi,n⟩:=x;exact⟨_,_,_,_,_,_,_,_,_,fun _ _=>rfl⟩
abbrev RetV (f:Nat) (args:Array Value) (v:Value) (w:World):Prop:=∀ W,Below w.heap.size w W→Calls Tryd.prog f args W fun e w'=>e= .returned v∧Below W.heap.size W w'
theorem RetV.bw {f:Nat} {args:Array Value} {v:Value} {w:World} (h:RetV f args v w) {W:World} (hb:Below w.heap.size w W) (n:Bw W):Calls Tryd.prog f args n.at fun e w''=>e= .returned v∧∃ m:Bw W,w''=m.at:=
 bw_calls (h n.at (hb.trans (n.2.mono hb.size)))
noncomputable def matB (R:Re) (t:Bs):Bool:=@decide (RightP R∧Way t false false R 0 t.length) (Classical.propDecidable _)
theorem matB_iff (R:Re) (t:Bs):matB R t=true ↔ RightP R∧Way t false false R 0 t.length:=by unfold matB;simp
def rightB (R:Re):Bool:=(printE R).2==0
theorem rightB_iff (R:Re):rightB R=true ↔ RightP R:=by rw[←right_print];unfold rightB;simp
theorem match_c (R:Re) (A:Option Addr) (c:Nat) (w:World) (hk:Kids (Lt w.heap.size) w A R) (hs:sizeE R≤600) (t:ByteArray) (hl:t.size≤100):RetV 9 #[valR R A c,.string t,.bool false,.bool false] (.bool (matB R t.data.toList)) w:=fun W hb=>by
 refine(match_any R A c W (hk.next hb) hs t hl).mono ?_;rintro e w' ⟨v,rfl,h1,h2⟩;refine⟨ret_bool ?_,h2⟩;have h3:=matB_iff R t.data.toList;have hlen:t.data.toList.length=t.size:=len_data t;rw[hlen] at h3
 cases hv:v with
 | true=>rw[hv] at h1;exact(h3.2 (h1.1 rfl)).symm
 | false=>
   cases hm:matB R t.data.toList with
   | false=>rfl
   | true=>have:=h1.2 (h3.1 hm);rw[hv] at this;cases this
theorem right_c (R:Re) (A:Option Addr) (c:Nat) (w:World) (hk:Kids (Lt w.heap.size) w A R) (hs:sizeE R≤600):RetV 8 #[valR R A c] (.bool (rightB R)) w:=fun W hb=>by
 obtain⟨k,s0,s1,s2,s3,m,lo,hi,n,e1⟩:=val_re R;have K18:Hid (∀ W',Below W.heap.size W W'→Calls Tryd.prog 18 #[valR R A c] W' (PostW W' (printE R))):=Lib.hid fun W' hb'=>rprint_any R A c W' ((hk.next hb).next hb') hs
 obtain⟨P,hP⟩:∃ P,P=printE R:=⟨_,rfl⟩;have hv:rightB R=(P.2==0):=by unfold rightB;rw[hP]
 rw[hv];rw[←hP] at K18;obtain⟨p1,p2⟩:=P;rw[e1] at K18 ⊢;have HB:=Lib.hid (one_box W (.cells #[.int .i64 k,.int .u64 s0,.int .u64 s1,.int .u64 s2,.int .u64 s3,.slice A m c,.int .i64 lo,.int .i64 hi,.int .i64 n] 29));clear hP hv e1 hk hb;go_enter Tryd.func8,Tryd.ntmps8;go_wp2_with (go_at_call 18;((with_reducible refine(K18.out _ HB.out).mono ?_));rintro _ w1 ⟨rfl,hb1⟩;have HB1:=Lib.hid (HB.out.trans (hb1.mono HB.out.size));clear hb1);go_ret;exact⟨rfl,HB1.out⟩
theorem parse_yes {s:ByteArray} {x:Re} (h:parseE s.data.toList=(some x,0,0)) (w:World):Calls Tryd.prog 7 #[.string s] w fun e w'=>∃ A c,e= .returned (.tuple #[valR x A c,.int .i64 0,.int .i64 0])∧Kids (Fr w.heap.size w'.heap.size) w' A x∧Below w.heap.size w w':=by
 have:=dparse_any s w;rw[h] at this;exact this.mono fun e w' ⟨h1,A,c,h2,h3⟩=>⟨A,c,h2,h3,h1⟩
theorem parse_not {s:ByteArray} {q:Nat} {er:Int} (h:parseE s.data.toList=(none,q,er)) (w:World):Calls Tryd.prog 7 #[.string s] w fun e w'=>e= .returned (.tuple #[.agg #[.int .i64 0,.int .u64 0,.int .u64 0,.int .u64 0,.int .u64 0,.slice none 0 0,.int .i64 0,.int .i64 0,.int .i64 0],.int .i64 q,.int .i64 er])∧Below w.heap.size w w':=by
 have:=dparse_any s w;rw[h] at this;exact this.mono fun e w' ⟨h1,h2⟩=>⟨h2,h1⟩
theorem lt_fr {lo hi:Nat} {w:World} {A:Option Addr} {r:Re} (h:Kids (Fr lo hi) w A r):Kids (Lt hi) w A r:=kids_of (fun _ _=>rfl) (fun _ hk=>hk.2) r A h
theorem whole_yes {s:ByteArray} {x:Re} (h:parseE s.data.toList=(some x,0,0)) (w:World):Calls Tryd.prog 6 #[.string s] w fun e w'=>e= .returned (.bool true)∧Below w.heap.size w w':=by
 have K7:=Lib.hid (parse_yes h w);obtain⟨k,s0,s1,s2,s3,m,lo,hi,n,e1⟩:=val_re x;simp only[e1] at K7;clear h e1;go_enter Tryd.func6,Tryd.ntmps6;go_wp2_with (go_at_call 7;((with_reducible refine(K7.out).mono ?_));rintro _ w1 ⟨A,c,rfl,_,hb1⟩;have HB:=Lib.hid (hb1.alloc hb1.size (.cells #[.int .i64 k,.int .u64 s0,.int .u64 s1,.int .u64 s2,.int .u64 s3,.slice A m c,.int .i64 lo,.int .i64 hi,.int .i64 n] 29));clear hb1);go_ret;exact⟨rfl,HB.out⟩
theorem whole_not {s:ByteArray} {q:Nat} {er:Int} (h:parseE s.data.toList=(none,q,er)) (her:¬ er=0) (w:World):Calls Tryd.prog 6 #[.string s] w fun e w'=>e= .returned (.bool false)∧Below w.heap.size w w':=by
 have K7:=Lib.hid (parse_not h w);have e0:(er==0)=false:=by simpa using her
 clear h;go_enter Tryd.func6,Tryd.ntmps6;go_wp2_with (go_at_call 7;((with_reducible refine(K7.out).mono ?_));rintro _ w1 ⟨rfl,hb1⟩;have HB:=Lib.hid (hb1.alloc hb1.size (.cells #[.int .i64 0,.int .u64 0,.int .u64 0,.int .u64 0,.int .u64 0,.slice none 0 0,.int .i64 0,.int .i64 0,.int .i64 0] 29));clear hb1);go_ret;exact⟨rfl,HB.out⟩
theorem read_yes {s:ByteArray} {x:Re} (h:parseE s.data.toList=(some x,0,0)) (w:World):Calls Tryd.prog 11 #[.string s] w fun e w'=>∃ A c,e= .returned (valR x A c)∧Hid (Kids (Lt w'.heap.size) w' A x)∧Hid (Below w.heap.size w w'):=by
 obtain⟨k,s0,s1,s2,s3,m,lo,hi,n,e1⟩:=val_re x;have K7:Hid (∀ W,Below w.heap.size w W→Calls Tryd.prog 7 #[.string s] W fun e w'=>∃ A c,e= .returned (.tuple #[.agg #[.int .i64 k,.int .u64 s0,.int .u64 s1,.int .u64 s2,.int .u64 s3,.slice A m c,.int .i64 lo,.int .i64 hi,.int .i64 n],.int .i64 0,.int .i64 0])∧Hid (Kids (Fr W.heap.size w'.heap.size) w' A x)∧Hid (Below W.heap.size W w')):=Lib.hid fun W _=>(parse_yes h W).mono fun e w' ⟨A,c,a,b,d⟩=>⟨A,c,by rw[←e1];exact a,Lib.hid b,Lib.hid d⟩
 simp only[e1]
 have HZ:Hid (∀ W,Below (w.alloc (.cells #[.int .i64 0,.int .u64 0,.int .u64 0,.int .u64 0,.int .u64 0,.slice none 0 0,.int .i64 0,.int .i64 0,.int .i64 0] 29)).heap.size (w.alloc (.cells #[.int .i64 0,.int .u64 0,.int .u64 0,.int .u64 0,.int .u64 0,.slice none 0 0,.int .i64 0,.int .i64 0,.int .i64 0] 29)) W→∀ o,(W.alloc o).cell? ⟨w.heap.size,0,none⟩=some (.int .i64 0)∧(W.alloc o).cell? ⟨w.heap.size,1,none⟩=some (.int .u64 0)∧(W.alloc o).cell? ⟨w.heap.size,2,none⟩=some (.int .u64 0)∧(W.alloc o).cell? ⟨w.heap.size,3,none⟩=some (.int .u64 0)∧(W.alloc o).cell? ⟨w.heap.size,4,none⟩=some (.int .u64 0)∧(W.alloc o).cell? ⟨w.heap.size,5,none⟩=some (.slice none 0 0)∧(W.alloc o).cell? ⟨w.heap.size,6,none⟩=some (.int .i64 0)∧(W.alloc o).cell? ⟨w.heap.size,7,none⟩=some (.int .i64 0)∧(W.alloc o).cell? ⟨w.heap.size,8,none⟩=some (.int .i64 0)∧(∀ j,(W.alloc o).frozen? ⟨w.heap.size,j,none⟩=false)):=Lib.hid fun W hb o=>by
  have h1:=heap_alloc_new w (.cells #[.int .i64 0,.int .u64 0,.int .u64 0,.int .u64 0,.int .u64 0,.slice none 0 0,.int .i64 0,.int .i64 0,.int .i64 0] 29);have hlt:w.heap.size<(w.alloc (.cells #[.int .i64 0,.int .u64 0,.int .u64 0,.int .u64 0,.int .u64 0,.slice none 0 0,.int .i64 0,.int .i64 0,.int .i64 0] 29)).heap.size:=by simp
  have h2:(W.alloc o).heap[w.heap.size]?=some (.cells #[.int .i64 0,.int .u64 0,.int .u64 0,.int .u64 0,.int .u64 0,.slice none 0 0,.int .i64 0,.int .i64 0,.int .i64 0] 29):=by
   rw[Below.heap_alloc _ _ _ (by have:=hb.size;omega),hb.block _ hlt];exact h1
  have l:=row_cell h2;exact⟨(l 0).trans rfl,(l 1).trans rfl,(l 2).trans rfl,(l 3).trans rfl,(l 4).trans rfl,(l 5).trans rfl,(l 6).trans rfl,(l 7).trans rfl,(l 8).trans rfl,row_free h2⟩
 have K7b:=Lib.hid (K7.out _ (one_box w (.cells #[.int .i64 0,.int .u64 0,.int .u64 0,.int .u64 0,.int .u64 0,.slice none 0 0,.int .i64 0,.int .i64 0,.int .i64 0] 29)));clear h e1 K7;go_enter Tryd.func11,Tryd.ntmps11;go_wp2_with (go_at_call 7;((with_reducible refine(K7b.out).mono ?_));rintro _ w1 ⟨A,c,rfl,HK,HB⟩;obtain⟨z0,z1,z2,z3,z4,z5,z6,z7,z8,zf⟩:=HZ.out w1 HB.out (.cells #[.int .i64 k,.int .u64 s0,.int .u64 s1,.int .u64 s2,.int .u64 s3,.slice A m c,.int .i64 lo,.int .i64 hi,.int .i64 n] 29);have f0:=zf 0;have f1:=zf 1;have f2:=zf 2;have f3:=zf 3;have f4:=zf 4;have f5:=zf 5;have f6:=zf 6;have f7:=zf 7;have f8:=zf 8;clear zf);obtain⟨W3,hW3⟩:∃ W3,W3=put9 (w1.alloc (.cells #[.int .i64 k,.int .u64 s0,.int .u64 s1,.int .u64 s2,.int .u64 s3,.slice A m c,.int .i64 lo,.int .i64 hi,.int .i64 n] 29)) w.heap.size (.int .i64 k) (.int .u64 s0) (.int .u64 s1) (.int .u64 s2) (.int .u64 s3) (.slice A m c) (.int .i64 lo) (.int .i64 hi) (.int .i64 n):=⟨_,rfl⟩
 have hbx:Box9 W3 w.heap.size (.int .i64 k) (.int .u64 s0) (.int .u64 s1) (.int .u64 s2) (.int .u64 s3) (.slice A m c) (.int .i64 lo) (.int .i64 hi) (.int .i64 n):=by
  rw[hW3];refine Box9.put (u0:= .int .i64 0) (u1:= .int .u64 0) (u2:= .int .u64 0) (u3:= .int .u64 0) (u4:= .int .u64 0) (u5:= .slice none 0 0) (u6:= .int .i64 0) (u7:= .int .i64 0) (u8:= .int .i64 0) ?_ _ _ _ _ _ _ _ _ _;obtain⟨z0,z1,z2,z3,z4,z5,z6,z7,z8,zf⟩:=HZ.out w1 HB.out (.cells #[.int .i64 k,.int .u64 s0,.int .u64 s1,.int .u64 s2,.int .u64 s3,.slice A m c,.int .i64 lo,.int .i64 hi,.int .i64 n] 29);exact⟨z0,z1,z2,z3,z4,z5,z6,z7,z8,fun q _=>zf q⟩
 have hsz:(w.alloc (.cells #[.int .i64 0,.int .u64 0,.int .u64 0,.int .u64 0,.int .u64 0,.slice none 0 0,.int .i64 0,.int .i64 0,.int .i64 0] 29)).heap.size=w.heap.size+1:=by simp
 have hb1:Below w.heap.size w (w1.alloc (.cells #[.int .i64 k,.int .u64 s0,.int .u64 s1,.int .u64 s2,.int .u64 s3,.slice A m c,.int .i64 lo,.int .i64 hi,.int .i64 n] 29)):=((one_box w _).trans (HB.out.mono (by omega))).trans ((one_box w1 _).mono (by have:=HB.out.size;omega));have hb3:Below w.heap.size w W3:=by rw[hW3];exact set_below hb1 (Nat.le_refl _) _ _ _ _ _ _ _ _ _
 have hk3:Kids (Lt W3.heap.size) W3 A x:=by
  have hk:=HK.out;have hz1:=HB.out.size;refine kids_of (P:=Fr (w.alloc (.cells #[.int .i64 0,.int .u64 0,.int .u64 0,.int .u64 0,.int .u64 0,.slice none 0 0,.int .i64 0,.int .i64 0,.int .i64 0] 29)).heap.size w1.heap.size) (w:=w1) (fun a ha=>?_) (fun k hk=>?_) x A hk
  ·obtain⟨g1,g2⟩:=ha
   have e1:W3.heap[a.block]?=w1.heap[a.block]?:=by
    rw[hW3,block_put9 _ _ _ _ _ _ _ _ _ _ _ (by omega)];exact(one_box w1 _).block _ g2
   exact cell_same e1
  ·have hk2:k<w1.heap.size:=hk.2
   show k<W3.heap.size;rw[hW3,size_put9];simp;omega
 unfold put9 at hW3;rw[←hW3];obtain⟨l0,l1,l2,l3,l4,l5,l6,l7,l8,_⟩:=hbx;exact bodyPost_ret (v:= .agg #[.int .i64 k,.int .u64 s0,.int .u64 s1,.int .u64 s2,.int .u64 s3,.slice A m c,.int .i64 lo,.int .i64 hi,.int .i64 n]) (by simp[results,Tryd.results11,go_sem,l0,l1,l2,l3,l4,l5,l6,l7,l8]) rfl ⟨A,c,rfl,Lib.hid hk3,Lib.hid hb3⟩
theorem bst {w w1 w2:World} (h:Below w.heap.size w w1) (hb:Below w1.heap.size w1 w2):Below w.heap.size w w2:=h.trans (hb.mono h.size)
theorem awake_any (w:World):Calls Tryd.prog 5 #[] w fun e w'=>e= .returned (.bool true)∧Below w.heap.size w w':=by
 obtain⟨k,s0,s1,s2,s3,m,lo,hi,n,e1⟩:=val_re rC;obtain⟨k',s0',s1',s2',s3',m',lo',hi',n',e2⟩:=val_re rS
 have KA:Hid (∀ W,Calls Tryd.prog 11 #[.string ⟨#[40,97,98,124,97,41,40,99,124,98,99,100,41]⟩] W fun e w'=>∃ A c,e= .returned (.agg #[.int .i64 k,.int .u64 s0,.int .u64 s1,.int .u64 s2,.int .u64 s3,.slice A m c,.int .i64 lo,.int .i64 hi,.int .i64 n])∧Hid (Kids (Lt w'.heap.size) w' A rC)∧Hid (Below W.heap.size W w')):=Lib.hid fun W=>by
  have:=read_yes (s:=⟨#[40,97,98,124,97,41,40,99,124,98,99,100,41]⟩) rc_read W;simp only[e1] at this;exact this
 have KB:Hid (∀ W,Calls Tryd.prog 11 #[.string ⟨#[97,42]⟩] W fun e w'=>∃ A c,e= .returned (.agg #[.int .i64 k',.int .u64 s0',.int .u64 s1',.int .u64 s2',.int .u64 s3',.slice A m' c,.int .i64 lo',.int .i64 hi',.int .i64 n'])∧Hid (Kids (Lt w'.heap.size) w' A rS)∧Hid (Below W.heap.size W w')):=Lib.hid fun W=>by
  have:=read_yes (s:=⟨#[97,42]⟩) rs_read W;simp only[e2] at this;exact this
 have KE:Hid (∀ W A c,Kids (Lt W.heap.size) W A rS→Calls Tryd.prog 12 #[.agg #[.int .i64 k',.int .u64 s0',.int .u64 s1',.int .u64 s2',.int .u64 s3',.slice A m' c,.int .i64 lo',.int .i64 hi',.int .i64 n'],.string ⟨#[97,97,98]⟩,.bool true,.bool true] W fun e w'=>∃ g cap,e= .returned (.slice (some ⟨g,0,none⟩) 3 cap)∧Hid (∀ W',Below w'.heap.size w' W'→W'.cell? ⟨g,2,none⟩=some (.int .i64 2))∧Hid (Below W.heap.size W w')):=Lib.hid fun W A c hk=>by
  have:=ends_yes rS A c W hk rs_size rs_right ⟨#[97,97,98]⟩ (by decide) true true;rw[e2] at this;refine this.mono ?_;rintro e w' ⟨v,rfl,h1,h2⟩;have hp:plW rS (ByteArray.mk #[97,97,98]).data.toList true true ((ByteArray.mk #[97,97,98]).size+1)=[0,1,2]:=rs_places;rw[hp] at h1
  rcases h1.2 with ⟨_,e⟩ | ⟨g,cap,cur,hv,_,hg,_⟩
  ·cases e
  ·refine⟨g,cap,by rw[hv];rfl,Lib.hid fun W' hW'=>?_,Lib.hid h2⟩
   have:=h1.cells (g:=g) (by rw[hv];rfl) 2 (.int .i64 2) rfl;rw[Addr.add_lit,Nat.zero_add] at this;exact(hW'.cell (p:=⟨g,2,none⟩) (Array.getElem?_eq_some_iff.1 hg).1).trans this
 have KM1:Hid (∀ W A c,Kids (Lt W.heap.size) W A rC→Calls Tryd.prog 9 #[.agg #[.int .i64 k,.int .u64 s0,.int .u64 s1,.int .u64 s2,.int .u64 s3,.slice A m c,.int .i64 lo,.int .i64 hi,.int .i64 n],.string ⟨#[97,98,99,100]⟩,.bool true,.bool true] W fun e w'=>e= .returned (.bool true)∧Hid (Below W.heap.size W w')):=Lib.hid fun W A c hk=>by
  have:=match_yes rC A c W hk rc_size rc_right ⟨#[97,98,99,100]⟩ (by decide) true true;rw[e1] at this;exact this.mono fun e w' ⟨v,h1,h2,h3⟩=>⟨by rw[h1,h2.2 rc_yes],Lib.hid h3⟩
 have KM2:Hid (∀ W A c,Kids (Lt W.heap.size) W A rC→Calls Tryd.prog 9 #[.agg #[.int .i64 k,.int .u64 s0,.int .u64 s1,.int .u64 s2,.int .u64 s3,.slice A m c,.int .i64 lo,.int .i64 hi,.int .i64 n],.string ⟨#[97,98,100]⟩,.bool true,.bool true] W fun e w'=>e= .returned (.bool false)∧Hid (Below W.heap.size W w')):=Lib.hid fun W A c hk=>by
  have:=match_yes rC A c W hk rc_size rc_right ⟨#[97,98,100]⟩ (by decide) true true;rw[e1] at this;refine this.mono fun e w' ⟨v,h1,h2,h3⟩=>⟨?_,Lib.hid h3⟩
  cases v with
  | false=>exact h1
  | true=>exact absurd (h2.1 rfl) rc_no
 have KN:Hid (∀ W A c,Kids (Lt W.heap.size) W A rS→Calls Tryd.prog 13 #[.agg #[.int .i64 k',.int .u64 s0',.int .u64 s1',.int .u64 s2',.int .u64 s3',.slice A m' c,.int .i64 lo',.int .i64 hi',.int .i64 n']] W fun e w'=>e= .returned (.bool true)∧Hid (Below W.heap.size W w')):=Lib.hid fun W A c hk=>by
  have:=nothing_yes rS A c W hk rs_size rs_right;rw[e2] at this;exact this.mono fun e w' ⟨v,h1,h2,h3⟩=>⟨by rw[h1,h2.2 rs_nothing],Lib.hid h3⟩
 have KW:Hid (∀ W A c,Kids (Lt W.heap.size) W A rC→Calls Tryd.prog 14 #[.agg #[.int .i64 k,.int .u64 s0,.int .u64 s1,.int .u64 s2,.int .u64 s3,.slice A m c,.int .i64 lo,.int .i64 hi,.int .i64 n],.bool true] W fun e w1=>∃ b,e= .returned (.pointer (some ⟨b,0,none⟩))∧Hid (Below W.heap.size W w1)∧Hid (Calls Tryd.prog 15 #[.pointer (some ⟨b,0,none⟩)] w1 fun e w'=>e= .returned (.bool true)∧w'=w1)):=Lib.hid fun W A c hk=>by
  have:=new_acc rC A c W hk rc_size rc_right true;rw[e1] at this;exact this.mono fun e w' ⟨h1,h2,_,h4⟩=>⟨_,h1,Lib.hid h2,h4 ⟨⟨#[97,98,99,100]⟩,rc_yes⟩⟩
 have HXF0:Hid (∀ (w1:World) (A:Option Addr) (c:Nat),Kids (Lt w1.heap.size) w1 A rC→(∀ W,Below (w1.alloc (.cells #[.int .i64 k,.int .u64 s0,.int .u64 s1,.int .u64 s2,.int .u64 s3,.slice A m c,.int .i64 lo,.int .i64 hi,.int .i64 n] 29)).heap.size (w1.alloc (.cells #[.int .i64 k,.int .u64 s0,.int .u64 s1,.int .u64 s2,.int .u64 s3,.slice A m c,.int .i64 lo,.int .i64 hi,.int .i64 n] 29)) W→W.cell? ⟨w1.heap.size,0,none⟩=some (.int .i64 k)∧W.cell? ⟨w1.heap.size,1,none⟩=some (.int .u64 s0)∧W.cell? ⟨w1.heap.size,2,none⟩=some (.int .u64 s1)∧W.cell? ⟨w1.heap.size,3,none⟩=some (.int .u64 s2)∧W.cell? ⟨w1.heap.size,4,none⟩=some (.int .u64 s3)∧W.cell? ⟨w1.heap.size,5,none⟩=some (.slice A m c)∧W.cell? ⟨w1.heap.size,6,none⟩=some (.int .i64 lo)∧W.cell? ⟨w1.heap.size,7,none⟩=some (.int .i64 hi)∧W.cell? ⟨w1.heap.size,8,none⟩=some (.int .i64 n))∧∀ W,Below (w1.alloc (.cells #[.int .i64 k,.int .u64 s0,.int .u64 s1,.int .u64 s2,.int .u64 s3,.slice A m c,.int .i64 lo,.int .i64 hi,.int .i64 n] 29)).heap.size (w1.alloc (.cells #[.int .i64 k,.int .u64 s0,.int .u64 s1,.int .u64 s2,.int .u64 s3,.slice A m c,.int .i64 lo,.int .i64 hi,.int .i64 n] 29)) W→Kids (Lt W.heap.size) W A rC):=Lib.hid fun w1 A c hk=>by
  refine⟨fun W hW=>?_,fun W hW=>?_⟩
  ·have h0:=heap_alloc_new w1 (.cells #[.int .i64 k,.int .u64 s0,.int .u64 s1,.int .u64 s2,.int .u64 s3,.slice A m c,.int .i64 lo,.int .i64 hi,.int .i64 n] 29)
   have h1:W.heap[w1.heap.size]?=some (.cells #[.int .i64 k,.int .u64 s0,.int .u64 s1,.int .u64 s2,.int .u64 s3,.slice A m c,.int .i64 lo,.int .i64 hi,.int .i64 n] 29):=by rw[hW.block _ (by simp)];exact h0
   have l:=row_cell h1;exact⟨(l 0).trans rfl,(l 1).trans rfl,(l 2).trans rfl,(l 3).trans rfl,(l 4).trans rfl,(l 5).trans rfl,(l 6).trans rfl,(l 7).trans rfl,(l 8).trans rfl⟩
  ·exact(hk.next (one_box w1 _)).next hW
 clear e1 e2;go_enter Tryd.func5,Tryd.ntmps5
 go_wp2_with (first
  | (go_at_call 11;(with_reducible refine(KA.out _).mono ?_);rintro _ w1 ⟨A,c,rfl,HK0,HB0⟩;obtain⟨hx,hkc⟩:=HXF0.out w1 A c HK0.out;have HXF:=Lib.hid hx;have HKC:=Lib.hid hkc;have HBW:=Lib.hid (HB0.out.trans ((one_box w1 (.cells #[.int .i64 k,.int .u64 s0,.int .u64 s1,.int .u64 s2,.int .u64 s3,.slice A m c,.int .i64 lo,.int .i64 hi,.int .i64 n] 29)).mono HB0.out.size));clear hx hkc)
  | (go_at_call 11;(with_reducible refine(KB.out _).mono ?_);rintro _ w2 ⟨A2,c2,rfl,HKS,HB2⟩;have HK2:=Lib.hid (HKC.out _ HB2.out))
  | (go_at_call 12;(with_reducible refine(KE.out _ _ _ HKS.out).mono ?_);rintro _ w3 ⟨g,cap,rfl,HG,hb⟩;have HB3:=Lib.hid (bst HB2.out hb.out);have HK3:=Lib.hid (HKC.out _ HB3.out);obtain⟨x0,x1,x2,x3,x4,x5,x6,x7,x8⟩:=HXF.out _ HB3.out)
  | (go_at_call 9;(with_reducible refine(KM1.out _ _ _ HK3.out).mono ?_);rintro _ w4 ⟨rfl,hb4⟩;clear x0 x1 x2 x3 x4 x5 x6 x7 x8;have HB4:=Lib.hid (bst HB3.out hb4.out);have HK4:=Lib.hid (HKC.out _ HB4.out);obtain⟨x0,x1,x2,x3,x4,x5,x6,x7,x8⟩:=HXF.out _ HB4.out)
  | (go_at_call 9;(with_reducible refine(KM2.out _ _ _ HK4.out).mono ?_);rintro _ w5 ⟨rfl,hb5⟩;clear x0 x1 x2 x3 x4 x5 x6 x7 x8;have HB5:=Lib.hid (bst HB4.out hb5.out);have HK5:=Lib.hid (HKC.out _ HB5.out);obtain⟨x0,x1,x2,x3,x4,x5,x6,x7,x8⟩:=HXF.out _ HB5.out;have hg:=HG.out _ (bst hb4.out hb5.out))
  | (go_at_call 11;(with_reducible refine(KB.out _).mono ?_);rintro _ w6 ⟨A6,c6,rfl,HKS6,hb6⟩;clear x0 x1 x2 x3 x4 x5 x6 x7 x8;have HB6:=Lib.hid (bst HB5.out hb6.out);have HK6:=Lib.hid (HKC.out _ HB6.out);obtain⟨x0,x1,x2,x3,x4,x5,x6,x7,x8⟩:=HXF.out _ HB6.out)
  | (go_at_call 13;(with_reducible refine(KN.out _ _ _ HKS6.out).mono ?_);rintro _ w7 ⟨rfl,hb7⟩;clear x0 x1 x2 x3 x4 x5 x6 x7 x8;have HB7:=Lib.hid (bst HB6.out hb7.out);have HK7:=Lib.hid (HKC.out _ HB7.out);obtain⟨x0,x1,x2,x3,x4,x5,x6,x7,x8⟩:=HXF.out _ HB7.out)
  | (go_at_call 14;(with_reducible refine(KW.out _ _ _ HK7.out).mono ?_);rintro _ w8 ⟨bm,rfl,hb8,H15⟩;have HB8:=Lib.hid (bst HB7.out hb8.out))
  | (go_at_call 15;(with_reducible refine(H15.out).mono ?_);rintro _ w9 ⟨rfl,rfl⟩))
 go_ret;exact⟨rfl,HBW.out.trans (HB8.out.mono HBW.out.size)⟩
end Go.Proofs.YtiafefjaldcpbaaDoor
