import Derived.Deep.RegionLaw
import Derived.Test.YtngfihoempcplaaGreatDoorCf
import Derived.Test.YtngfihoempcplaaGreatDoorRMay
import Derived.Lib.AppendStr
namespace Go.Proofs.YtngfihoempcplaaGreatDoor
open Go Go.RowKit
set_option maxRecDepth 100000
set_option maxHeartbeats 2000000
section
section
variable {P:Program} (w:World)
theorem z7i {ops:Array Oper} {o:Oper} {a:Act} {K:Act→World→Prop} {Q:Exit→Act→World→Prop} {E:Prop} (hgd:o.guard=none) (s x:Operand) (t:TypeId)
  (ho:o.op= .call { callee:= .builtin .append,args:=#[s,x],argTypes:=#[t,t] })
  (base:Nat) (e:TypeId) (i:TypeInfo) (z:Value) (size bytes:Nat) (ht:P.underlying t=some (.slice e)) (hi:P.info? e=some i) (hz:i.zero=some z)
  (hsize:i.size=size) (hby:i.bytes=bytes) (hzs:z.cells.size=size) (hsz:0<size)
  (v:Value) (n:Nat) (xs:List Value) (hs:a.eval s=v) (hown:w.ownsRow base e size v n xs)
  (ad:Addr) (m c:Nat) (news:List Value) (hx:a.eval x= .slice (some ad) m c) (hl:news.length=m * size) (hnews:∀ j u,news[j]?=some u→w.cell? (ad.add j)=some u) (h1:∀ u∈news,u.oneCell'=true)
  (h63:n+m≤maxLen) (hbytes:(n+m) * bytes≤140737488355328) (hbase:base≤w.heap.size)
  (h:∀ v' w',w'.ownsRow base e size v' (n+m) (xs++news)→w.grownBy w' v.ownBlock→(v'= .slice none 0 0 ↔ v= .slice none 0 0∧m=0)→K (a.put o.dst v') w'):
  if Region.wanted o (yielded ops a.tmps)=true then Oper.wp P o a w K Q else E:=by
 have hw:Region.wanted o (yielded ops a.tmps)=true:=by simp[Region.wanted,hgd]
 rw[if_pos hw];exact wp_append_own w s x t ho base e i z size bytes ht hi hz hsize hby hzs hsz v n xs hs hown ad m c news hx hl hnews h1 h63 hbytes hbase h
end
theorem Two2.bytes {B:Nat} {w0 w w':World} {vp vt v':Value} {ps:List Pt} {t:Bs} (u:Bs) (h:Two2 B w0 w vp vt ps t)
  (ho:w'.ownsRow B 5 1 v' (t.length+u.length) (byteCells t++byteCells u)) (hg:w.grownBy w' vt.ownBlock):Two2 B w0 w' vp v' ps (t++u):=
 ⟨h.parts.kept hg (y1x h.parts h.text (by decide)),by rw[List.length_append];simpa[byteCells,Lib.byteCells] using ho,h.below.grown hg h.size (fun k hk=>(h.text.lt k hk).1),Nat.le_trans h.size hg.size⟩
theorem z2q (u:Bs):∀ x∈byteCells u,x.oneCell'=true:=by
 intro x hx;simp only[byteCells,Lib.byteCells,List.mem_map] at hx;obtain⟨b,_,rfl⟩:=hx;rfl
def Wrote (B:Nat) (w0 w:World) (vt:Value) (t:Bs) (e:Ending) (w':World):Prop:=∃ v',e= .returned v'∧Two2 B w0 w' (.slice none 0 0) v' [] t∧w.grownBy w' vt.ownBlock
theorem z2l {a b c:World} {row:Option Nat} (h:a.grownBy b row) (k:b.grownBy c row):a.grownBy c row:=
 ⟨k.os.trans h.os,k.tape.trans h.tape,k.output.trans h.output,Nat.le_trans h.size k.size,fun i hi hn=>(k.block i (Nat.lt_of_lt_of_le hi h.size) hn).trans (h.block i hi hn)⟩
theorem x4f (w:World) (row:Option Nat):w.grownBy w.drew row:=⟨rfl,rfl,rfl,Nat.le_refl _,fun _ _ _=>rfl⟩
theorem y31 (B:Nat) (w0 w:World) (vt:Value) (t:Bs) (c:UInt8) (ht:t.length≤1000000) (hp:plainB c=true) (h:Two2 B w0 w (.slice none 0 0) vt [] t):
  Cz 117 #[vt,.int .u8 c.toNat] w (Wrote B w0 w vt (t++prB c)):=by
 have H:=zz h;have K:=zz fun w=>z3w c w
 rw[hp] at K;have e:prB c=[c]:=by unfold prB;rw[if_pos hp]
 rw[e];obtain⟨j0,hj,hy0,hy1,hy2⟩:=info_parts info5;clear h hp e;go_enter Tryz.func117,Tryz.ntmps117;go_wp2_with (first | (go_at_call 140;((with_reducible refine(K.out _).mono ?_));rintro e w1 ⟨rfl,rfl⟩) | (at_builtin;refine wpList_append_own _ rfl (.tmp 8) (.tmp 10) 86 rfl B 5 j0 (.int .u8 0) 1 1 Tryz.underlying86 hj hy0 hy1 hy2 rfl (by decide) _ _ _ rfl (H.out.text.alloc _) ⟨w.heap.size,0,none⟩ 1 1 [.int .u8 c.toNat] rfl rfl (fun j u hu=>z0k w 5 #[.int .u8 c.toNat] j u hu) (z52 _) (by unfold maxLen;omega) (by omega) (H.out.alloc _).size ?_;intro v2 w3 hown' hgrow _));go_ret;exact⟨_,rfl,(H.out.alloc _).bytes [c] hown' hgrow,z2l (World.grownBy_alloc w _ _) hgrow⟩
theorem x23 (set:BA) (c:UInt8) (v:Int) (h:Lib.indexByte set.data.toList c=v) (w:World):
  Cz 141 #[set,.int .u8 (c.toNat:Nat)] w fun e w'=>e= .returned (.int .i64 v)∧w=w':=
 (Tryz.strings_IndexByte set (c.toNat:Nat) w).mono fun e w' ⟨he,hw⟩=>⟨by rw[he,←h];simp,hw.symm⟩
theorem z29 (B:Nat) (w0 w:World) (vt:Value) (t:Bs) (c d:UInt8) (j:Int) (ht:t.length≤1000000) (hp:plainB c=false) (hpr:prB c=[92,d]) (hj:Lib.indexByte escSet.data.toList c=j)
  (hd:(j=0∧d=110)∨(j=1∧d=114)∨(j=2∧d=116)∨(j=3∧d=34)∨(j=4∧d=92)∨(j=5∧d=36)) (h:Two2 B w0 w (.slice none 0 0) vt [] t):
  Cz 117 #[vt,.int .u8 c.toNat] w (Wrote B w0 w vt (t++prB c)):=by
 have H:=zz h;have K:=zz fun w=>z3w c w
 rw[hp] at K;rw[hpr];have K2:Hid (∀ w,Cz 141 #[.string ⟨#[10,13,9,34,92,36]⟩,.int .u8 (c.toNat:Nat)] w fun e w'=>e= .returned (.int .i64 j)∧w=w'):=zz fun w=>x23 escSet c j hj w
 obtain⟨j0,hj0,hy0,hy1,hy2⟩:=info_parts info5;clear h hp hpr hj
 rcases hd with ⟨rfl,rfl⟩ | ⟨rfl,rfl⟩ | ⟨rfl,rfl⟩ | ⟨rfl,rfl⟩ | ⟨rfl,rfl⟩ | ⟨rfl,rfl⟩
 ·go_enter Tryz.func117,Tryz.ntmps117
  go_wp2_with (first | (go_at_call 140;((with_reducible refine(K.out _).mono ?_));rintro e w1 ⟨rfl,rfl⟩) | (go_at_call 141;((with_reducible refine(K2.out _).mono ?_));rintro e w1 ⟨rfl,rfl⟩) | (at_builtin;refine wpList_append_own _ rfl (.tmp 16) (.tmp 19) 86 rfl B 5 j0 (.int .u8 0) 1 1 Tryz.underlying86 hj0 hy0 hy1 hy2 rfl (by decide) _ _ _ rfl (H.out.text.alloc _) ⟨w.heap.size,0,none⟩ 2 2 (byteCells [92,110]) rfl rfl (fun j u hu=>z0k w 5 #[.int .u8 92,.int .u8 110] j u hu) (z2q _) (by unfold maxLen;omega) (by omega) (H.out.alloc _).size ?_;intro v2 w3 hown' hgrow _));go_ret;exact⟨_,rfl,(H.out.alloc _).bytes [92,110] hown' hgrow,z2l (World.grownBy_alloc w _ _) hgrow⟩
 ·go_enter Tryz.func117,Tryz.ntmps117
  go_wp2_with (first | (go_at_call 140;((with_reducible refine(K.out _).mono ?_));rintro e w1 ⟨rfl,rfl⟩) | (go_at_call 141;((with_reducible refine(K2.out _).mono ?_));rintro e w1 ⟨rfl,rfl⟩) | (at_builtin;refine wpList_append_own _ rfl (.tmp 16) (.tmp 19) 86 rfl B 5 j0 (.int .u8 0) 1 1 Tryz.underlying86 hj0 hy0 hy1 hy2 rfl (by decide) _ _ _ rfl (H.out.text.alloc _) ⟨w.heap.size,0,none⟩ 2 2 (byteCells [92,114]) rfl rfl (fun j u hu=>z0k w 5 #[.int .u8 92,.int .u8 114] j u hu) (z2q _) (by unfold maxLen;omega) (by omega) (H.out.alloc _).size ?_;intro v2 w3 hown' hgrow _));go_ret;exact⟨_,rfl,(H.out.alloc _).bytes [92,114] hown' hgrow,z2l (World.grownBy_alloc w _ _) hgrow⟩
 ·go_enter Tryz.func117,Tryz.ntmps117
  go_wp2_with (first | (go_at_call 140;((with_reducible refine(K.out _).mono ?_));rintro e w1 ⟨rfl,rfl⟩) | (go_at_call 141;((with_reducible refine(K2.out _).mono ?_));rintro e w1 ⟨rfl,rfl⟩) | (at_builtin;refine wpList_append_own _ rfl (.tmp 16) (.tmp 19) 86 rfl B 5 j0 (.int .u8 0) 1 1 Tryz.underlying86 hj0 hy0 hy1 hy2 rfl (by decide) _ _ _ rfl (H.out.text.alloc _) ⟨w.heap.size,0,none⟩ 2 2 (byteCells [92,116]) rfl rfl (fun j u hu=>z0k w 5 #[.int .u8 92,.int .u8 116] j u hu) (z2q _) (by unfold maxLen;omega) (by omega) (H.out.alloc _).size ?_;intro v2 w3 hown' hgrow _));go_ret;exact⟨_,rfl,(H.out.alloc _).bytes [92,116] hown' hgrow,z2l (World.grownBy_alloc w _ _) hgrow⟩
 ·go_enter Tryz.func117,Tryz.ntmps117
  go_wp2_with (first | (go_at_call 140;((with_reducible refine(K.out _).mono ?_));rintro e w1 ⟨rfl,rfl⟩) | (go_at_call 141;((with_reducible refine(K2.out _).mono ?_));rintro e w1 ⟨rfl,rfl⟩) | (at_builtin;refine wpList_append_own _ rfl (.tmp 16) (.tmp 19) 86 rfl B 5 j0 (.int .u8 0) 1 1 Tryz.underlying86 hj0 hy0 hy1 hy2 rfl (by decide) _ _ _ rfl (H.out.text.alloc _) ⟨w.heap.size,0,none⟩ 2 2 (byteCells [92,34]) rfl rfl (fun j u hu=>z0k w 5 #[.int .u8 92,.int .u8 34] j u hu) (z2q _) (by unfold maxLen;omega) (by omega) (H.out.alloc _).size ?_;intro v2 w3 hown' hgrow _));go_ret;exact⟨_,rfl,(H.out.alloc _).bytes [92,34] hown' hgrow,z2l (World.grownBy_alloc w _ _) hgrow⟩
 ·go_enter Tryz.func117,Tryz.ntmps117
  go_wp2_with (first | (go_at_call 140;((with_reducible refine(K.out _).mono ?_));rintro e w1 ⟨rfl,rfl⟩) | (go_at_call 141;((with_reducible refine(K2.out _).mono ?_));rintro e w1 ⟨rfl,rfl⟩) | (at_builtin;refine wpList_append_own _ rfl (.tmp 16) (.tmp 19) 86 rfl B 5 j0 (.int .u8 0) 1 1 Tryz.underlying86 hj0 hy0 hy1 hy2 rfl (by decide) _ _ _ rfl (H.out.text.alloc _) ⟨w.heap.size,0,none⟩ 2 2 (byteCells [92,92]) rfl rfl (fun j u hu=>z0k w 5 #[.int .u8 92,.int .u8 92] j u hu) (z2q _) (by unfold maxLen;omega) (by omega) (H.out.alloc _).size ?_;intro v2 w3 hown' hgrow _));go_ret;exact⟨_,rfl,(H.out.alloc _).bytes [92,92] hown' hgrow,z2l (World.grownBy_alloc w _ _) hgrow⟩
 ·go_enter Tryz.func117,Tryz.ntmps117
  go_wp2_with (first | (go_at_call 140;((with_reducible refine(K.out _).mono ?_));rintro e w1 ⟨rfl,rfl⟩) | (go_at_call 141;((with_reducible refine(K2.out _).mono ?_));rintro e w1 ⟨rfl,rfl⟩) | (at_builtin;refine wpList_append_own _ rfl (.tmp 16) (.tmp 19) 86 rfl B 5 j0 (.int .u8 0) 1 1 Tryz.underlying86 hj0 hy0 hy1 hy2 rfl (by decide) _ _ _ rfl (H.out.text.alloc _) ⟨w.heap.size,0,none⟩ 2 2 (byteCells [92,36]) rfl rfl (fun j u hu=>z0k w 5 #[.int .u8 92,.int .u8 36] j u hu) (z2q _) (by unfold maxLen;omega) (by omega) (H.out.alloc _).size ?_;intro v2 w3 hown' hgrow _));go_ret;exact⟨_,rfl,(H.out.alloc _).bytes [92,36] hown' hgrow,z2l (World.grownBy_alloc w _ _) hgrow⟩
theorem x0j:∀ n:Nat,n<16→∀ h:n<hexSet.size,hexSet[n]=hexC n:=by decide+kernel
theorem Two2.drew {B:Nat} {w0 w:World} {vp vt:Value} {ps:List Pt} {t:Bs} (h:Two2 B w0 w vp vt ps t):Two2 B w0 w.drew vp vt ps t:=⟨h.parts,h.text,h.below.drew,h.size⟩
theorem and15:∀ n:Nat,n<256→bits .and .u8 (n:Int) 15=((n % 16:Nat):Int):=by decide+kernel
theorem y7b (B:Nat) (w0 w:World) (vt:Value) (t:Bs) (c:UInt8) (ht:t.length≤1000000) (hp:plainB c=false) (hpr:prB c=[92,120,hexC (c.toNat / 16),hexC (c.toNat % 16)]) (hj:Lib.indexByte escSet.data.toList c= -1) (h:Two2 B w0 w (.slice none 0 0) vt [] t):
  Cz 117 #[vt,.int .u8 c.toNat] w (Wrote B w0 w vt (t++prB c)):=by
 have H:=zz h;have K:=zz fun w=>z3w c w
 rw[hp] at K;rw[hpr];have K2:Hid (∀ w,Cz 141 #[.string ⟨#[10,13,9,34,92,36]⟩,.int .u8 (c.toNat:Nat)] w fun e w'=>e= .returned (.int .i64 (-1))∧w=w'):=zz fun w=>x23 escSet c _ hj w
 obtain⟨j0,hj0,hy0,hy1,hy2⟩:=info_parts info5;clear h hp hpr hj;have c256:=UInt8.toNat_lt c;obtain⟨a,ha⟩:∃ a,a=c.toNat / 16:=⟨_,rfl⟩;obtain⟨b,hb⟩:∃ b,b=c.toNat % 16:=⟨_,rfl⟩;rw[←ha,←hb];have e1:(c.toNat:Int) / 16=(a:Int):=by omega
 have e2:bits .and .u8 (c.toNat:Int) 15=(b:Int):=by rw[and15 _ c256,hb]
 obtain⟨x,hx⟩:∃ x:Int,x=(c.toNat:Int):=⟨_,rfl⟩;rw[←hx] at K K2 e1 e2 ⊢;have x0:0≤x:=by omega
 have x1:x≤255:=by omega
 have a0:(0:Int)≤a∧(a:Int)<16:=by omega
 have b0:(0:Int)≤b∧(b:Int)<16:=by omega
 have a1:a<16:=by omega
 have b1:b<16:=by omega
 clear hx ha hb;go_enter Tryz.func117,Tryz.ntmps117;go_wp2_with (first | (go_at_call 140;((with_reducible refine(K.out _).mono ?_));rintro e w1 ⟨rfl,rfl⟩) | (go_at_call 141;((with_reducible refine(K2.out _).mono ?_));rintro e w1 ⟨rfl,rfl⟩))
 go_region_law (refine z7i _ rfl (.tmp 21) (.tmp 28) 86 rfl B 5 j0 (.int .u8 0) 1 1 Tryz.underlying86 hj0 hy0 hy1 hy2 rfl (by decide) _ _ _ rfl (H.out.drew.text.alloc _) ⟨w.drew.heap.size,0,none⟩ 4 4 (byteCells [92,120,hexSet[a],hexSet[b]]) rfl rfl (fun j u hu=>z0k w.drew 5 #[.int .u8 92,.int .u8 120,.int .u8 hexSet[a].toNat,.int .u8 hexSet[b].toNat] j u hu) (z2q _) (by unfold maxLen;omega) (by omega) (H.out.drew.alloc _).size ?_;intro v2 w3 hown' hgrow _)
 all_goals
  go_wp2;go_ret;have hz:=(H.out.drew.alloc _).bytes [92,120,hexSet[a],hexSet[b]] hown' hgrow
  have e3:([92,120,hexSet[a],hexSet[b]]:Bs)=[92,120,hexC a,hexC b]:=by
   simp only[List.cons.injEq,true_and,and_true];exact⟨x0j a a1 _,x0j b b1 _⟩
  exact⟨_,rfl,e3 ▸ hz,z2l (z2l (x4f w _) (World.grownBy_alloc w.drew _ _)) hgrow⟩
theorem y13 (B:Nat) (w0 w:World) (vt:Value) (t:Bs) (c:UInt8) (ht:t.length≤1000000) (h:Two2 B w0 w (.slice none 0 0) vt [] t):
  Cz 117 #[vt,.int .u8 c.toNat] w (Wrote B w0 w vt (t++prB c)):=by
 by_cases hp:plainB c=true
 ·exact y31 B w0 w vt t c ht hp h
 ·have hp:=Bool.eq_false_iff.2 hp
  have hx:∀ c:UInt8,(plainB c=false→prB c=[92,120,hexC (c.toNat / 16),hexC (c.toNat % 16)]∧Lib.indexByte escSet.data.toList c= -1)∨
    (prB c=[92,110]∧Lib.indexByte escSet.data.toList c=0)∨(prB c=[92,114]∧Lib.indexByte escSet.data.toList c=1)∨(prB c=[92,116]∧Lib.indexByte escSet.data.toList c=2)∨
    (prB c=[92,34]∧Lib.indexByte escSet.data.toList c=3)∨(prB c=[92,92]∧Lib.indexByte escSet.data.toList c=4)∨(prB c=[92,36]∧Lib.indexByte escSet.data.toList c=5):=
   z5c _ (by decide+kernel)
  rcases hx c with h1 | ⟨h1,h2⟩ | ⟨h1,h2⟩ | ⟨h1,h2⟩ | ⟨h1,h2⟩ | ⟨h1,h2⟩ | ⟨h1,h2⟩
  ·obtain⟨h1,h2⟩:=h1 hp
   exact y7b B w0 w vt t c ht hp h1 h2 h
  ·exact z29 B w0 w vt t c 110 _ ht hp h1 h2 (.inl ⟨rfl,rfl⟩) h
  ·exact z29 B w0 w vt t c 114 _ ht hp h1 h2 (.inr (.inl ⟨rfl,rfl⟩)) h
  ·exact z29 B w0 w vt t c 116 _ ht hp h1 h2 (.inr (.inr (.inl ⟨rfl,rfl⟩))) h
  ·exact z29 B w0 w vt t c 34 _ ht hp h1 h2 (.inr (.inr (.inr (.inl ⟨rfl,rfl⟩)))) h
  ·exact z29 B w0 w vt t c 92 _ ht hp h1 h2 (.inr (.inr (.inr (.inr (.inl ⟨rfl,rfl⟩))))) h
  ·exact z29 B w0 w vt t c 36 _ ht hp h1 h2 (.inr (.inr (.inr (.inr (.inr ⟨rfl,rfl⟩))))) h
end
structure St (B:Nat) (w0:World) (g:Nat) (N T:BA) (w:World) (v:Value) (t:Bs):Prop where
 two:Two2 B w0 w (.slice none 0 0) v [] t
 blk:w.heap[g]?=some (.cells #[N,T] 81 (0,0))
theorem x3v {w:World} {B e s n g:Nat} {v:Value} {xs:List Value} {cs:Array Value} {t:TypeId} (h:w.ownsRow B e s v n xs) (hg:w.heap[g]?=some (.cells cs t (0,0))) (hne:e≠t):some g≠v.ownBlock:=by
 rcases h.2 with ⟨rfl,_⟩ | ⟨g',cap,cur,rfl,_,hh,_⟩
 ·simp[Value.ownBlock]
 ·simp only[Value.ownBlock,ne_eq,Option.some.injEq]
  rintro rfl;rw[hh] at hg;injection hg with hg
  injection hg with _ ht
  exact hne ht
theorem St.cs {B:Nat} {w0:World} {g:Nat} {N T:BA} {w:World} {v:Value} {t:Bs} (h:St B w0 g N T w v t):w.cell? ⟨g,0,none⟩=some (.string N)∧w.cell? ⟨g,1,none⟩=some (.string T):=by
 constructor
 ·rw[cell_of_row w g 0 _ 81 (0,0) h.blk];rfl
 ·rw[cell_of_row w g 1 _ 81 (0,0) h.blk];rfl
theorem St.grown {B:Nat} {w0:World} {g:Nat} {N T:BA} {w w':World} {v v':Value} {t t':Bs} (h:St B w0 g N T w v t) (h2:Two2 B w0 w' (.slice none 0 0) v' [] t') (hg:w.grownBy w' v.ownBlock):St B w0 g N T w' v' t':=
 ⟨h2,(hg.block g (Array.getElem?_eq_some_iff.1 h.blk).1 (x3v h.two.text h.blk (by decide))).trans h.blk⟩
theorem St.str {B:Nat} {w0:World} {g:Nat} {N T:BA} {w w':World} {v v':Value} {t:Bs} {s:BA} (u:Bs) (hu:s.data.toList=u) (h:St B w0 g N T w v t)
  (ho:w'.ownsRow B 5 1 v' (t.length+s.size) (byteCells t++Lib.strCells s)) (hg:w.grownBy w' v.ownBlock):St B w0 g N T w' v' (t++u):=by
 have e:s.size=u.length:=by rw[←z0d,hu]
 rw[Lib.strCells_eq,hu,e] at ho;exact h.grown (h.two.bytes u ho hg) hg
theorem St.alloc {B:Nat} {w0:World} {g:Nat} {N T:BA} {w:World} {v:Value} {t:Bs} (h:St B w0 g N T w v t) (o:Obj):St B w0 g N T (w.alloc o) v t:=
 ⟨h.two.alloc o,(Below.heap_alloc w o g (Array.getElem?_eq_some_iff.1 h.blk).1).trans h.blk⟩
theorem St.one {B:Nat} {w0:World} {g:Nat} {N T:BA} {w w':World} {v v':Value} {t:Bs} {b:UInt8} (h:St B w0 g N T w v t)
  (ho:w'.ownsRow B 5 1 v' (t.length+1) (byteCells t++[.int .u8 b.toNat])) (hg:w.grownBy w' v.ownBlock):St B w0 g N T w' v' (t++[b]):=
 h.grown (h.two.bytes [b] ho hg) hg
theorem x4m {w:World} {B:Nat} {v:Value} {t:Bs} (h:w.ownsRow B 5 1 v t.length (byteCells t)) (h0:t≠[]):(convert 86 9 v).run Tryz.prog w= .ok (.string ⟨t.toArray⟩) w:=by
 rcases z13 h with ⟨_,e⟩ | ⟨g,cap,rfl,_⟩
 ·exact absurd e h0
 ·exact z6x h
theorem y8x {ps:List Pt} {k:Nat} {p:Pt} (h:ps[k]?=some p):(ps.take (k+1)).flatMap prP=(ps.take k).flatMap prP++prP p:=by
 obtain⟨hk,e⟩:=List.getElem?_eq_some_iff.1 h;rw[List.take_succ_eq_append_getElem hk,e];simp
theorem y9i (T:BA) (j:Nat) (h:j<T.size):(T.data.toList.take (j+1)).flatMap prB=(T.data.toList.take j).flatMap prB++prB T[j]:=by
 have e:T.data.toList.take (j+1)=T.data.toList.take j++[T[j]]:=by
  rw[List.take_succ_eq_append_getElem (by simpa using h)];rfl
 rw[e];simp
theorem y2q {a b:BA} {x:Int} (h:a=b):Ending.returned (.tuple #[a,x])= .returned (.tuple #[b,x]):=by rw[h]
theorem y1v (ps:List Pt) (k:Nat):(34::(ps.take k).flatMap prP).length≤(print ps).length:=by
 unfold print;have e:ps=ps.take k++ps.drop k:=(List.take_append_drop k ps).symm
 have:(ps.flatMap prP).length=((ps.take k).flatMap prP).length+((ps.drop k).flatMap prP).length:=by
  rw[←List.length_append,←List.flatMap_append,List.take_append_drop]
 simp only[List.length_cons,List.length_append];omega
theorem x1g {ps:List Pt} {k:Nat} {p:Pt} (h:ps[k]?=some p):(34::(ps.take k).flatMap prP).length+(prV p.1).length+(p.2.flatMap prB).length≤(print ps).length:=by
 have h1:=y1v ps (k+1);rw[y8x h] at h1;have e:prP p=prV p.1++p.2.flatMap prB:=rfl;rw[e] at h1;simp only[List.length_cons,List.length_append] at h1 ⊢;omega
theorem y7a (l:Bs) (j:Nat):((l.take j).flatMap prB).length≤(l.flatMap prB).length:=by
 have:(l.flatMap prB).length=((l.take j).flatMap prB).length+((l.drop j).flatMap prB).length:=by
  rw[←List.length_append,←List.flatMap_append,List.take_append_drop]
 omega
theorem y69 (A:OA) (n c:Nat) (ps:List Pt) (w:World) (h:Rd w.heap.size w A n ps) (hmax:n≤1000000) (hl:∀ p∈ps,p.1.length≤1000000) (hl2:∀ p∈ps,p.2.length≤1000000) (hp:(print ps).length≤1000000) (hm:may false ps=true):
  Cz 88 #[.slice A n c] w fun e w'=>e= .returned (.tuple #[.string ⟨(print ps).toArray⟩,oZ])∧Below w.heap.size w w':=by
 have K:=zz (y0b A n c ps w h hmax hl);rw[hm] at K;obtain⟨R,hR⟩:∃ R:BA,R=⟨(print ps).toArray⟩:=⟨_,rfl⟩;rw[←hR];have HRes:=zz hR;have HR:=zz h;have HN:=zz h.1;have HL:=zz hl;have HL2:=zz hl2;have HP:=zz hp;obtain⟨j0,hj0,hy0,hy1,hy2⟩:=info_parts info5;clear h hm hl hl2 hR hp;go_enter Tryz.func88,Tryz.ntmps88;go_wp2_with (go_at_call 80;((with_reducible refine(K.out).mono ?_));rintro e w1 ⟨rfl,hb1⟩)
 have hS:Two2 w.heap.size w (w1.alloc (.cells #[.int .u8 34] 5)) () (.slice (some ⟨w1.heap.size,0,none⟩) 1 1) [] [34]:=
  ⟨World.ownsRow_nil _ _ _ _,World.ownsRow_lit w1 #[.int .u8 34] 1 hb1.size (by decide) rfl,hb1.alloc hb1.size _,by have:=hb1.size;simp;omega⟩
 have HS:=zz hS;clear hS
 go_loopw [4,14] (fun v i wr=>∃ k:Nat,k≤n∧i= .int .i64 k∧Two2 w.heap.size w wr (.slice none 0 0) v [] (34::(ps.take k).flatMap prP)) (fun _ i _=>n - (intOf i).toNat)
 case atStart=>exact⟨0,by omega,rfl,HS.out⟩
 case round=>
  obtain⟨k,hk,rfl,hT⟩:=hrel;have HT:=zz hT;clear hT;by_cases a:k<n
  ·obtain⟨ad,rfl,hr⟩:=HR.out.2 (by omega)
   obtain⟨p,hp⟩:∃ p,ps[k]?=some p:=⟨_,List.getElem?_eq_getElem (by have:=HN.out;omega)⟩;obtain⟨c0,c1⟩:=(hr.keep HT.out.below).at_ hp
   have hq:=x1g hp;have hnx:=y8x hp;have HPm:=zz (List.mem_of_getElem? hp);obtain⟨t0,ht0⟩:∃ t0,t0=34::(ps.take k).flatMap prP:=⟨_,rfl⟩;rw[←ht0] at HT hq;have hnx2:34::(ps.take (k+1)).flatMap prP=t0++prV p.1++p.2.flatMap prB:=by rw[hnx,ht0];unfold prP;simp
   have HX:=zz hnx2;obtain⟨N,hN⟩:∃ N:BA,N=⟨p.1.toArray⟩:=⟨_,rfl⟩;obtain⟨T,hT⟩:∃ T:BA,T=⟨p.2.toArray⟩:=⟨_,rfl⟩;rw[←hN] at c0;rw[←hT] at c1;have HN1:Hid (N.data.toList=p.1):=zz (by rw[hN]);have HT1:Hid (T.data.toList=p.2):=zz (by rw[hT]);have hTs:T.size≤1000000:=by rw[←z0d,HT1.out];exact HL2.out p HPm.out
   have hNs:N.size≤1000000:=by rw[←z0d,HN1.out];exact HL.out p HPm.out
   have hp1:=HP.out;have HQ:Hid (t0.length+(prV p.1).length+(p.2.flatMap prB).length≤1000000):=zz (by omega);have S1:St w.heap.size w wr.heap.size N T (wr.alloc (.cells #[N,T] 81)) u4 t0:=⟨HT.out.alloc _,heap_alloc_new wr _⟩;have HS1:=zz S1;clear hr hp hq hnx ht0 hnx2 S1 hp1;by_cases e1:p.1=[]
   ·obtain⟨n1,n2⟩:=z7q hN e1
    have HV:Hid (prV p.1=[]):=by apply Lib.hid;rw[e1];rfl
    clear e1 hN hT;go_wp2
    go_loopw [4,33] (fun v i wq=>∃ j:Nat,j≤T.size∧i= .int .i64 j∧St w.heap.size w wr.heap.size N T wq v (t0++prV p.1++(T.data.toList.take j).flatMap prB)) (fun _ i _=>T.size - (intOf i).toNat)
    case atStart=>exact⟨0,by omega,rfl,by rw[HV.out];simpa using HS1.out⟩
    case round=>
     obtain⟨j,hj,rfl,hS⟩:=hrel;have HSj:=zz hS;clear hS;obtain⟨d0,d1⟩:=HSj.out.cs;have hsub:=y7a T.data.toList j;by_cases b:j<T.size
     ·have K18:=zz (y13 w.heap.size w _ _ _ T[j] (by
       have h1:=HQ.out;rw[HT1.out] at hsub ⊢;simp only[List.length_append];omega) HSj.out.two)
      have HJ:=zz (y9i T j b);clear hsub;go_wp2_with (go_at_call 117;((with_reducible refine(K18.out).mono ?_));rintro e w2 ⟨v',rfl,h2,g2⟩)
      go_roundw
      case rel=>exact⟨j+1,by omega,by go_num,by rw[HJ.out,←List.append_assoc];exact HSj.out.grown h2 g2⟩
      case measure=>simp[intOf];omega
     ·clear hsub
      go_wp2
      go_roundw
      case rel=>
       refine⟨k+1,by omega,by go_num,?_⟩;have hz:=HSj.out.two;rw[List.take_of_length_le (by rw[z0d];omega),HT1.out] at hz;rw[HX.out];exact hz
      case measure=>simp[intOf];omega
   ·obtain⟨n1,n2⟩:=z4r hN e1
    have HV:Hid (prV p.1=[36,123]++p.1++[125]):=by apply Lib.hid;unfold prV;rw[if_neg e1];simp
    have hq0:=HQ.out;have ht0l:t0.length≤1000000:=by omega
    have HNl:Hid (p.1.length=N.size):=zz (by rw[←HN1.out,z0d]);clear e1 hN hT hq0;go_wp2_with (first | (at_builtin;refine Lib.wpList_append_own_string _ rfl (.tmp 21) (.const (.string ⟨#[36,123]⟩)) 86 9 rfl w.heap.size 5 j0 Tryz.underlying86 Tryz.underlying9 hj0 hy0 hy1 hy2 _ _ _ rfl HS1.out.two.text ⟨#[36,123]⟩ rfl (by unfold maxLen;show t0.length+2≤_;omega) (by show t0.length+2≤_;omega) HS1.out.two.size ?_;intro v2 w2 h2 g2 _;have S2:=HS1.out.str [36,123] rfl h2 g2;obtain⟨d20,d21⟩:=S2.cs;clear h2 g2) | (at_builtin;refine Lib.wpList_append_own_string _ rfl (.tmp 23) (.tmp 25) 86 9 rfl w.heap.size 5 j0 Tryz.underlying86 Tryz.underlying9 hj0 hy0 hy1 hy2 _ _ _ rfl S2.two.text N rfl (by unfold maxLen;simp;omega) (by simp;omega) S2.two.size ?_;intro v3 w3 h3 g3 _;have S3:=S2.str p.1 HN1.out h3 g3;obtain⟨d30,d31⟩:=S3.cs;clear h3 g3) | (at_builtin;refine wpList_append_own _ rfl (.tmp 27) (.tmp 28) 86 rfl w.heap.size 5 j0 (.int .u8 0) 1 1 Tryz.underlying86 hj0 hy0 hy1 hy2 rfl (by decide) _ _ _ rfl (S3.two.text.alloc _) ⟨w3.heap.size,0,none⟩ 1 1 [.int .u8 125] rfl rfl (fun j u hu=>z0k w3 5 #[.int .u8 125] j u hu) (z52 _) (by unfold maxLen;rw[List.length_append,List.length_append,HNl.out];simp;omega) (by rw[List.length_append,List.length_append,HNl.out];simp;omega) (S3.alloc _).two.size ?_;intro v4 w4 h4 g4 _;have S4:=(S3.alloc _).one (b:=125) h4 g4;obtain⟨d40,d41⟩:=S4.cs;clear h4 g4))
    go_loopw [4,33] (fun v i wq=>∃ j:Nat,j≤T.size∧i= .int .i64 j∧St w.heap.size w wr.heap.size N T wq v (t0++prV p.1++(T.data.toList.take j).flatMap prB)) (fun _ i _=>T.size - (intOf i).toNat)
    case atStart=>exact⟨0,by omega,rfl,by rw[HV.out];simpa using S4⟩
    case round=>
     obtain⟨j,hj,rfl,hS⟩:=hrel;have HSj:=zz hS;clear hS;obtain⟨d0,d1⟩:=HSj.out.cs;have hsub:=y7a T.data.toList j;by_cases b:j<T.size
     ·have K18:=zz (y13 w.heap.size w _ _ _ T[j] (by
       have h1:=HQ.out;rw[HT1.out] at hsub ⊢;simp only[List.length_append];omega) HSj.out.two)
      have HJ:=zz (y9i T j b);clear hsub;go_wp2_with (go_at_call 117;((with_reducible refine(K18.out).mono ?_));rintro e w2 ⟨v',rfl,h2,g2⟩)
      go_roundw
      case rel=>exact⟨j+1,by omega,by go_num,by rw[HJ.out,←List.append_assoc];exact HSj.out.grown h2 g2⟩
      case measure=>simp[intOf];omega
     ·clear hsub
      go_wp2
      go_roundw
      case rel=>
       refine⟨k+1,by omega,by go_num,?_⟩;have hz:=HSj.out.two;rw[List.take_of_length_le (by rw[z0d];omega),HT1.out] at hz;rw[HX.out];exact hz
      case measure=>simp[intOf];omega
  ·have HX:Hid (print ps=(34::(ps.take k).flatMap prP)++[34]):=by
    apply Lib.hid;rw[List.take_of_length_le (by have:=HN.out;omega)];rfl
   have hx:=y1v ps k;have hp1:=HP.out;obtain⟨t0,ht0⟩:∃ t0,t0=34::(ps.take k).flatMap prP:=⟨_,rfl⟩;rw[←ht0] at HT HX hx;have hx0:t0.length≤1000000:=by omega
   clear hx ht0 hp1;go_wp2_with (at_builtin;refine wpList_append_own _ rfl (.tmp 44) (.tmp 45) 86 rfl w.heap.size 5 j0 (.int .u8 0) 1 1 Tryz.underlying86 hj0 hy0 hy1 hy2 rfl (by decide) _ _ _ rfl (HT.out.text.alloc _) ⟨wr.heap.size,0,none⟩ 1 1 [.int .u8 34] rfl rfl (fun j u hu=>z0k wr 5 #[.int .u8 34] j u hu) (z52 _) (by unfold maxLen;omega) (by omega) (HT.out.alloc _).size ?_;intro v2 w3 hown' hgrow _;have H3:=(HT.out.alloc _).bytes [34] hown' hgrow;have hcv:=x4m H3.text (by simp);clear hown' hgrow)
   go_ret2
   exact⟨y2q (by rw[HRes.out,HX.out]),H3.below⟩
end Go.Proofs.YtngfihoempcplaaGreatDoor
