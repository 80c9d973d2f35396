import Derived.Test.YtejgbpbljdhndaaDoorARe2
import Derived.Laws.BytesArg
namespace Go.Proofs.YtejgbpbljdhndaaDoor
open Go Go.RowKit
set_option maxRecDepth 100000
set_option maxHeartbeats 4000000
section
attribute [local go_sem ↓] Go.wp_at_zero Go.wp_at_succ
def Lit (w:World) (k:Nat) (v:Value):Prop:=w.heap[k]?=some (.cells #[.int .u8 41] 5 (0,0))∧some k≠v.ownBlock
theorem Lit.keeps {w w':World} {v v':Value} {k:Nat} (h:Lit w k v) (hk:Keeps1 w v w' v'):Lit w' k v':=hk k _ 5 h.1 h.2
theorem y1f (w:World) {B n:Nat} {v:Value} {xs:List Value} (h:w.ownsRow B 5 1 v n xs):Lit (w.alloc (.cells #[.int .u8 41] 5)) w.heap.size v:=
 ⟨heap_alloc_new w _,fun e=>Nat.lt_irrefl _ (x36 h e)⟩
theorem y98 (w:World) (o:Obj) {B n:Nat} {v:Value} {xs:List Value} (h:(w.alloc o).ownsRow B 5 1 v n xs):Lit ((w.alloc o).alloc (.cells #[.int .u8 41] 5)) (w.heap.size+1) v:=by
 have:=y1f (w.alloc o) h;have e:(w.alloc o).heap.size=w.heap.size+1:=by simp
 rw[e] at this;exact this
theorem Lit.alloc {w:World} {k:Nat} {v:Value} (h:Lit w k v) (o:Obj):Lit (w.alloc o) k v:=⟨by rw[Below.heap_alloc w o k (Array.getElem?_eq_some_iff.1 h.1).1];exact h.1,h.2⟩
theorem Lit.grown {w w':World} {k B L:Nat} {v v':Value} {t:Bs} (h:Lit w k v) (hg:w.grownBy w' v.ownBlock) (ho:w'.ownsRow B 5 1 v' L (byteCells t++byteCells [40])):Lit w' k v':=by
 have h1:w'.heap[k]?=some (.cells #[.int .u8 41] 5 (0,0)):=by rw[hg.block k (Array.getElem?_eq_some_iff.1 h.1).1 h.2];exact h.1
 exact⟨h1,x03 ho h1⟩
theorem y6k (S:S4) (x:Re) (lo hi n:Int) (hx:AReC x):AReC (.mk 7 S [x] lo hi n):=by
 intro B w0 w v t A c lv d g g' h hk hf hlv hl
 have hx1:∃ g1 g2,form x 3 (d+1) g1=some g2:=by
  rw[form] at hf
  split at hf
  ·rw[if_pos rfl] at hf
   split at hf
   ·exact z39 (k:=0) hf rfl
   ·cases hf
  ·cases hf
 obtain⟨g1,g2,hf1⟩:=hx1;have hte:textE (.mk 7 S [x] lo hi n)=[40]++(textE x++[41]):=by rw[textE,if_neg (by omega),if_neg (by omega),if_neg (by omega),if_pos rfl,joinT,tailT,List.append_nil];rfl
 rw[hte] at hl ⊢;simp only[List.length_append,List.length_singleton] at hl;obtain⟨ad,A',c',rfl,hp,h9,hkr⟩:=z2t (k:=0) hk (r:= .mk 7 S [x] lo hi n) (x:=x) rfl;have hadd:ad.add (0 * 9)=ad:=by unfold Addr.add;simp
 rw[hadd] at h9;have h9w:=h9.keep (w':=w) (fun o=>h.below.cell hp) (h.below.cell hp);have hltw:ad.block<w.heap.size:=Nat.lt_of_lt_of_le hp h.size;have h9a:∀ o,At9 (w.alloc o) ad x A' c':=fun o=>h9w.keep (fun o'=>World.cell?_alloc_lt w o ⟨ad.block,o',none⟩ hltw) (World.cell?_alloc_lt w o ad hltw)
 have HA9:Hid (∀ w',Below B w0 w'→At9 w' ad x A' c'):=Lib.hid fun w' hb'=>h9.keep (fun o=>hb'.cell hp) (hb'.cell hp)
 have K:∀ w1 v1,RowB B w0 w1 v1 (t++[40])→Calls Tryd.prog 37 #[v1,valR x A' c'] w1 (WrtC B w0 w1 v1 (t++[40]) (t++[40]++textE x)):=fun w1 v1 h1=>hx B w0 w1 v1 _ A' c' 3 (d+1) g1 g2 h1 hkr hf1 (by omega) (by simp only[List.length_append,List.length_singleton];omega)
 obtain⟨xT,hxT⟩:∃ xT,xT=textE x:=⟨_,rfl⟩;rw[←hxT] at hl K ⊢;have H:=Lib.hid h;obtain⟨j0,hj,hy0,hy1,hy2⟩:=info_parts info5;obtain⟨k',S',ks',lo',hi',n'⟩:=x;simp only[valR,List.length_singleton] at K ⊢;have HKC:=Lib.hid K;obtain⟨s0,hs0⟩:∃ s0:Int,s0=S.1.toNat:=⟨_,rfl⟩;obtain⟨s1,hs1⟩:∃ s1:Int,s1=S.2.1.toNat:=⟨_,rfl⟩;obtain⟨s2,hs2⟩:∃ s2:Int,s2=S.2.2.1.toNat:=⟨_,rfl⟩;obtain⟨s3,hs3⟩:∃ s3:Int,s3=S.2.2.2.toNat:=⟨_,rfl⟩;rw[←hs0,←hs1,←hs2,←hs3];obtain⟨A0,c0,rfl⟩:=z63 h.row;by_cases h200:t.length≤200
 ·have b200:decide ((200:Int)<(t.length:Int))=false:=by simp;omega
  have b200':decide (200<t.length)=false:=by simp;omega
  obtain⟨w1,hw1⟩:∃ w1,w1=w.alloc (.cells #[.int .i64 7,.int .u64 s0,.int .u64 s1,.int .u64 s2,.int .u64 s3,.slice (some ad) 1 c,.int .i64 lo,.int .i64 hi,.int .i64 n] 27):=⟨_,rfl⟩;have HW1:=Lib.hid hw1;have H1:Hid (RowB B w0 w1 (.slice A0 t.length c0) t):=Lib.hid (by rw[hw1];exact h.alloc _)
  have HBX:Hid (∀ w',KeptT w1 w'→w'.cell? ⟨w.heap.size,5,none⟩=some (.slice (some ad) 1 c)):=Lib.hid fun w' hk'=>by
   obtain⟨_,_,_,_,_,q5,_⟩:=box9 (hw1 ▸ hk');exact q5
  have e5:=HBX.out w1 (KeptT.refl _);have e5a:∀ o,(w1.alloc o).cell? ⟨w.heap.size,5,none⟩=some (.slice (some ad) 1 c):=fun o=>HBX.out _ (KeptT.alloc _ _)
  have e5b:∀ o o',((w1.alloc o).alloc o').cell? ⟨w.heap.size,5,none⟩=some (.slice (some ad) 1 c):=fun o o'=>HBX.out _ ((KeptT.alloc _ _).trans (KeptT.alloc _ _))
  obtain⟨u0,u1,u2,u3,u4,u5,u6,u7,u8⟩:=HA9.out _ H1.out.below;have ua:∀ o,At9 (w1.alloc o) ad (Re.mk k' S' ks' lo' hi' n') A' c':=fun o=>HA9.out _ (H1.out.alloc o).below
  have ub:∀ o o',At9 ((w1.alloc o).alloc o') ad (Re.mk k' S' ks' lo' hi' n') A' c':=fun o o'=>HA9.out _ ((H1.out.alloc o).alloc o').below
  have HUA:=Lib.hid ua;have HUB:=Lib.hid ub;have HE5A:=Lib.hid e5a;have HE5B:=Lib.hid e5b;clear h hk hf hte hadd h9 hkr h9w h9a hf1 K hxT hs0 hs1 hs2 hs3 hx ua ub e5a e5b;go_enter Tryd.func37,Tryd.ntmps37;go_wp2;rw[←HW1.out];clear hw1
  go_region_held3 (fun w'=>w'.cell? ⟨w.heap.size,5,none⟩=some (.slice (some ad) 1 c)∧w'.cell? ad=some (.int .i64 k')∧w'.cell? ⟨ad.block,ad.off+1,none⟩=some (.int .u64 S'.1.toNat)∧w'.cell? ⟨ad.block,ad.off+2,none⟩=some (.int .u64 S'.2.1.toNat)∧
    w'.cell? ⟨ad.block,ad.off+3,none⟩=some (.int .u64 S'.2.2.1.toNat)∧w'.cell? ⟨ad.block,ad.off+4,none⟩=some (.int .u64 S'.2.2.2.toNat)∧w'.cell? ⟨ad.block,ad.off+5,none⟩=some (.slice A' ks'.length c')∧w'.cell? ⟨ad.block,ad.off+6,none⟩=some (.int .i64 lo')∧
    w'.cell? ⟨ad.block,ad.off+7,none⟩=some (.int .i64 hi')∧w'.cell? ⟨ad.block,ad.off+8,none⟩=some (.int .i64 n'))
   (first | go_keep | exact⟨e5,u0,u1,u2,u3,u4,u5,u6,u7,u8⟩ | exact⟨HE5A.out _,HUA.out _⟩ | exact⟨HE5B.out _ _,HUB.out _ _⟩ | exact⟨HBX.out _ (HK3.out.trans (KeptT.alloc _ _)),HA9.out _ (H3.out.alloc _).below⟩ | exact⟨HBX.out _ (HK5.out.trans (KeptT.alloc _ _)),HA9.out _ (H5.out.alloc _).below⟩)
   (first
    | (go_at_call 37;((with_reducible refine(HKC.out _ _ (by first | exact H3.out | exact H3.out.alloc _)).mono ?_));rintro e w5 ⟨v5,t5,rfl,hc5,hrow5,hk5,hk15⟩;have HK5:Hid (KeptT w1 w5):=Lib.hid (by first | exact HK3.out.trans hk5 | exact(HK3.out.trans (KeptT.alloc _ _)).trans hk5);have HK15:Hid (1≤t.length→Keeps1 w1 (.slice A0 t.length c0) w5 v5):=Lib.hid (by first | exact fun h=>(HK13.out h).trans (hk15 (by simp)) | exact fun h=>(HK13.out h).trans ((Keeps1.below _ (z0b w3 _)).trans (hk15 (by simp))));(first | (have HL5:=Lib.hid (HL3.out.keeps (hk15 (by simp)))) | (have HL5:=Lib.hid ((y1f w3 H3.out.row).keeps (hk15 (by simp)))) | skip);have e5:=HBX.out _ HK5.out;obtain⟨u0,u1,u2,u3,u4,u5,u6,u7,u8⟩:=HA9.out _ hrow5.below;have H5:=Lib.hid hrow5;have HC5:=Lib.hid hc5;have hl5:t5.length≤900000:=(by have:=HC5.out.2.2;simp only[List.length_append,List.length_singleton] at this;omega);clear hrow5 hc5 hk5 hk15)
    | ((refine z3x _ (by rfl) (.tmp 55) (.tmp 56) 99 (by rfl) B 5 j0 (.int .u8 0) 1 1 Tryd.underlying99 hj hy0 hy1 hy2 (by rfl) (by decide) _ _ _ (by rfl) (by first | exact(H1.out.drew.alloc _).row | exact((H1.out.drew.alloc _).alloc _).row) _ 1 1 (byteCells [40]) (by rfl) (by rfl) (by first | exact fun j u hu=>z0l _ 5 #[.int .u8 40] j u hu | exact fun j u hu=>y7h _ _ 5 #[.int .u8 40] j u hu | exact fun j u hu=>z5h _ _ 5 #[.int .u8 40] j u hu) (z1m _) (by unfold maxLen;omega) (by omega) (by first | exact(H1.out.drew.alloc _).size | exact((H1.out.drew.alloc _).alloc _).size) ?_;intro v3 w3 hown3 hgrow3 _;have HK3:Hid (KeptT w1 w3):=Lib.hid (by first | exact((KeptT.drew w1).trans (KeptT.alloc _ _)).trans (KeptT.grown (H1.out.drew.alloc _).row hgrow3) | exact(((KeptT.drew w1).trans (KeptT.alloc _ _)).trans (KeptT.alloc _ _)).trans (KeptT.grown ((H1.out.drew.alloc _).alloc _).row hgrow3));have H3:Hid (RowB B w0 w3 v3 (t++[40])):=Lib.hid (by first | exact(H1.out.drew.alloc _).bytes [40] hown3 hgrow3 | exact((H1.out.drew.alloc _).alloc _).bytes [40] hown3 hgrow3);have HK13:Hid (1≤t.length→Keeps1 w1 (.slice A0 t.length c0) w3 v3):=Lib.hid (by first | exact fun h=>(Keeps1.below _ (z0b w1.drew _)).trans (Keeps1.grown hown3 (by omega) hgrow3) | exact fun h=>(Keeps1.below _ (z0e w1.drew _ _)).trans (Keeps1.grown hown3 (by omega) hgrow3));(first | (have HL3:Hid (Lit w3 (w1.heap.size+1) v3):=Lib.hid ((y98 w1.drew _ (H1.out.drew.alloc _).row).grown hgrow3 hown3)) | (have HL3:Hid (Lit w3 w1.heap.size v3):=Lib.hid (((y1f w1.drew H1.out.drew.row).alloc _).grown hgrow3 hown3)) | skip);have e5:=HBX.out _ HK3.out;obtain⟨u0,u1,u2,u3,u4,u5,u6,u7,u8⟩:=HA9.out _ H3.out.below;clear hown3 hgrow3))
    | ((refine z3x _ (by rfl) (.tmp 62) (.tmp 63) 99 (by rfl) B 5 j0 (.int .u8 0) 1 1 Tryd.underlying99 hj hy0 hy1 hy2 (by rfl) (by decide) _ _ _ (by rfl) (by first | exact H5.out.row | exact(H5.out.alloc _).row) _ 1 1 (byteCells [41]) (by rfl) (by rfl) (by first | exact fun j u hu=>z0l w5 5 #[.int .u8 41] j u hu | exact fun j u hu=>y87 HL5.out.1 j u hu) (z1m _) (by unfold maxLen;omega) (by omega) (by first | exact H5.out.size | exact(H5.out.alloc _).size) ?_;intro v7 w7 hown7 hgrow7 _;have H7:Hid (RowB B w0 w7 v7 (t5++[41])):=Lib.hid (by first | exact H5.out.bytes [41] hown7 hgrow7 | exact(H5.out.alloc _).bytes [41] hown7 hgrow7);have HK7:Hid (KeptT w1 w7):=Lib.hid (by first | exact HK5.out.trans (KeptT.grown H5.out.row hgrow7) | exact(HK5.out.trans (KeptT.alloc _ _)).trans (KeptT.grown (H5.out.alloc _).row hgrow7));have HK17:Hid (1≤t5.length→Keeps1 w5 v5 w7 v7):=Lib.hid (by first | exact fun h=>Keeps1.grown hown7 (by omega) hgrow7 | exact fun h=>(Keeps1.below _ (z0b w5 _)).trans (Keeps1.grown hown7 (by omega) hgrow7));have e5:=HBX.out _ HK7.out;obtain⟨u0,u1,u2,u3,u4,u5,u6,u7,u8⟩:=HA9.out _ H7.out.below;clear hown7 hgrow7))
    | fail)
  all_goals (
   go_wp2;go_ret;refine⟨_,t5++[41],rfl,?_,H7.out,?_,fun h1=>?_⟩
   ·have:=HC5.out.step (CutT.refl (t5++[41]))
    rw[List.append_assoc,List.append_assoc] at this;exact this
   ·exact(show KeptT w w1 by rw[HW1.out];exact KeptT.alloc w _).trans HK7.out
   ·exact((show Keeps1 w _ w1 _ by rw[HW1.out];exact Keeps1.below _ (z0b w _)).trans (HK15.out h1)).trans (HK17.out (HC5.out.pos (by omega) (by simp only[List.length_append,List.length_singleton];omega))))
 ·have b200:decide ((200:Int)<(t.length:Int))=true:=by simp;omega
  have b200':decide (200<t.length)=true:=by simp;omega
  clear h hk hf hte hadd h9 hkr h9w h9a hf1 K hxT hs0 hs1 hs2 hs3 hx;go_enter Tryd.func37,Tryd.ntmps37;go_wp2;go_ret;exact⟨_,t,rfl,(CutT.refl t).past _ (by omega),H.out.alloc _,KeptT.alloc w _,fun _=>Keeps1.below _ (z0b w _)⟩
end
theorem z6z {sep:Bs} {ks:List Re} (h:∀ x∈ks,1≤(textE x).length+sep.length):ks.length≤(joinT sep ks).length+1:=by
 have tl:∀ l:List Re,(∀ x∈l,1≤(textE x).length+sep.length)→l.length≤(tailT sep l).length:=by
  intro l
  induction l with
  | nil=>intro _;simp
  | cons x l ih=>
    intro hl;have:=ih (fun y hy=>hl y (by simp[hy]));have:=hl x (by simp);rw[tailT];simp only[List.length_append,List.length_cons];omega
 cases ks with
 | nil=>simp
 | cons x l=>
   have:=tl l (fun y hy=>h y (by simp[hy]));rw[joinT];simp only[List.length_append,List.length_cons];omega
theorem y02 {k:Int} {S:S4} {ks:List Re} {lo hi n:Int} (h1:k≠1) (h2:k≠2) (h3:k≠3) (h6:k≠6) (h7:k≠7):textE (.mk k S ks lo hi n)=joinT (if k=5 then [124] else []) ks:=by
 rw[textE,if_neg h1,if_neg h2,if_neg h3,if_neg h7,if_neg h6]
theorem x22 (r:Re):AReC r:=by
 induction r using Re.ind with
 | h k S ks lo hi n ih=>
   by_cases k6:k=6
   ·subst k6
    intro B w0 w v t A c lv d g g' h hk hf hlv hl
    have hks:∃ x,ks=[x]:=by
     have hf2:=hf;rw[form] at hf2
     split at hf2
     ·rename_i h1;exact((z4w h1.2).1 rfl).1
     ·cases hf2
    obtain⟨x,rfl⟩:=hks;exact x2o S x lo hi n (ih x (by simp)) B w0 w v t A c lv d g g' h hk hf hlv hl
   ·by_cases k7:k=7
    ·subst k7
     intro B w0 w v t A c lv d g g' h hk hf hlv hl
     have hks:∃ x,ks=[x]:=by
      have hf2:=hf;rw[form] at hf2
      split at hf2
      ·rename_i h1;exact(z4w h1.2).2.1 rfl
      ·cases hf2
     obtain⟨x,rfl⟩:=hks;exact y6k S x lo hi n (ih x (by simp)) B w0 w v t A c lv d g g' h hk hf hlv hl
    ·intro B w0 w v t A c lv d g g' h hk hf hlv hl
     have hf2:=hf;rw[form] at hf2
     split at hf2
     ·rename_i hh
      obtain⟨hlev,ht⟩:=hh;have hkz:=(z4w ht).2.2;obtain⟨A0,c0,rfl⟩:=z63 h.row;have H:=Lib.hid h;have HK:=Lib.hid hk;obtain⟨j0,hj,hy0,hy1,hy2⟩:=info_parts info5;by_cases h200:t.length≤200
      ·have b200:decide ((200:Int)<(t.length:Int))=false:=by simp;omega
       have b200':decide (200<t.length)=false:=by simp;omega
       have K33:=Lib.hid fun w1 h1=>y8j B w0 w1 (.slice A0 t.length c0) t S (by omega) h1
       by_cases k1:k=1
       ·subst k1
        have hte:textE (.mk 1 S ks lo hi n)=setText S:=by rw[textE,if_pos rfl]
        rw[hte];simp only[valR];obtain⟨m,hm⟩:∃ m,m=ks.length:=⟨_,rfl⟩;rw[←hm];obtain⟨s0,hs0⟩:∃ s0:Int,s0=S.1.toNat:=⟨_,rfl⟩;obtain⟨s1,hs1⟩:∃ s1:Int,s1=S.2.1.toNat:=⟨_,rfl⟩;obtain⟨s2,hs2⟩:∃ s2:Int,s2=S.2.2.1.toNat:=⟨_,rfl⟩;obtain⟨s3,hs3⟩:∃ s3:Int,s3=S.2.2.2.toNat:=⟨_,rfl⟩;rw[←hs0,←hs1,←hs2,←hs3] at K33 ⊢;clear h hk hf hf2 hlev ht hkz hs0 hs1 hs2 hs3 hm ih hl hte;go_enter Tryd.func37,Tryd.ntmps37;go_wp2_with (go_at_call 51;((with_reducible refine(K33.out _ (H.out.alloc _)).mono ?_));rintro e w5 ⟨v5,rfl,hrow5,hk5,hk15⟩);go_ret;exact⟨_,_,rfl,CutT.refl _,hrow5,(KeptT.alloc w _).trans hk5,fun h1=>(Keeps1.below _ (z0b w _)).trans (hk15 h1)⟩
       ·by_cases k2:k=2
        ·subst k2
         have hte:textE (.mk 2 S ks lo hi n)=[94]:=by rw[textE,if_neg k1,if_pos rfl]
         rw[hte];simp only[valR];obtain⟨m,hm⟩:∃ m,m=ks.length:=⟨_,rfl⟩;rw[←hm];clear h hk hf hf2 hlev ht hkz hm ih hl hte K33;go_enter Tryd.func37,Tryd.ntmps37;go_wp2_with (at_builtin;refine wpList_append_own _ rfl (.tmp 19) (.tmp 20) 99 rfl B 5 j0 (.int .u8 0) 1 1 Tryd.underlying99 hj hy0 hy1 hy2 rfl (by decide) _ _ _ rfl ((H.out.alloc _).alloc _).row ⟨w.heap.size+1,0,none⟩ 1 1 (byteCells [94]) rfl rfl (fun j u hu=>z5h _ _ 5 #[.int .u8 94] j u hu) (z1m _) (by unfold maxLen;omega) (by omega) ((H.out.alloc _).alloc _).size ?_;intro v5 w5 hown5 hgrow5 _);go_ret;exact⟨_,_,rfl,CutT.refl _,((H.out.alloc _).alloc _).bytes [94] hown5 hgrow5,((KeptT.alloc w _).trans (KeptT.alloc _ _)).trans (KeptT.grown ((H.out.alloc _).alloc _).row hgrow5),fun h1=>(Keeps1.below _ (z0e w _ _)).trans (Keeps1.grown hown5 (by omega) hgrow5)⟩
        ·by_cases k3:k=3
         ·subst k3
          have hte:textE (.mk 3 S ks lo hi n)=[36]:=by rw[textE,if_neg k1,if_neg k2,if_pos rfl]
          rw[hte];simp only[valR];obtain⟨m,hm⟩:∃ m,m=ks.length:=⟨_,rfl⟩;rw[←hm];clear h hk hf hf2 hlev ht hkz hm ih hl hte K33;go_enter Tryd.func37,Tryd.ntmps37;go_wp2_with (at_builtin;refine wpList_append_own _ rfl (.tmp 24) (.tmp 25) 99 rfl B 5 j0 (.int .u8 0) 1 1 Tryd.underlying99 hj hy0 hy1 hy2 rfl (by decide) _ _ _ rfl ((H.out.alloc _).alloc _).row ⟨w.heap.size+1,0,none⟩ 1 1 (byteCells [36]) rfl rfl (fun j u hu=>z5h _ _ 5 #[.int .u8 36] j u hu) (z1m _) (by unfold maxLen;omega) (by omega) ((H.out.alloc _).alloc _).size ?_;intro v5 w5 hown5 hgrow5 _);go_ret;exact⟨_,_,rfl,CutT.refl _,((H.out.alloc _).alloc _).bytes [36] hown5 hgrow5,((KeptT.alloc w _).trans (KeptT.alloc _ _)).trans (KeptT.grown ((H.out.alloc _).alloc _).row hgrow5),fun h1=>(Keeps1.below _ (z0e w _ _)).trans (Keeps1.grown hown5 (by omega) hgrow5)⟩
         ·have hte:=y02 (S:=S) (ks:=ks) (lo:=lo) (hi:=hi) (n:=n) k1 k2 k3 k6 k7
          by_cases k4:k=4
          ·subst k4
           have hne1:∀ x∈ks,1≤(textE x).length:=fun x hx=>by
            obtain⟨i,hi1,hi2⟩:=List.getElem_of_mem hx;obtain⟨g1,g2,hx2⟩:=z39 (k:=i) hf2 (r:=x) (by rw[←hi2];exact List.getElem?_eq_getElem hi1);exact x1m hx2
           rw[hte,if_neg (by omega)] at hl ⊢;have hlen:=z6z (sep:=[]) (fun x hx=>Nat.le_trans (hne1 x hx) (Nat.le_add_right _ _));have K34:=Lib.hid fun w1 (h1:RowB B w0 w1 (.slice A0 t.length c0) t)=>y0p ks ih ⟨#[]⟩ (by show 0≤1;omega) B w0 w1 (.slice A0 t.length c0) t A c (levK 4) d g g' h1 (z9m hk) hf2 (by show 1≤3;omega) hl (by rw[List.length_append] at hl;have hlen:ks.length≤(joinT [] ks).length+1:=hlen;omega) (fun _=>hne1)
           simp only[valR];obtain⟨m,hm⟩:∃ m,m=ks.length:=⟨_,rfl⟩;rw[←hm] at K34 ⊢;have hJ:((⟨#[]⟩:ByteArray).data.toList)=([]:Bs):=rfl;rw[hJ] at K34;obtain⟨J,hJ2⟩:∃ J,J=joinT [] ks:=⟨_,rfl⟩;rw[←hJ2] at K34 ⊢;clear h hk hf hf2 hlev ht hkz hm ih hl hte K33 hne1 hlen hJ hJ2;go_enter Tryd.func37,Tryd.ntmps37;go_wp2_with (go_at_call 52;((with_reducible refine(K34.out _ (H.out.alloc _)).mono ?_));rintro e w5 ⟨v5,t5,rfl,hc5,hrow5,hk5,hk15⟩);go_ret;exact⟨_,_,rfl,hc5,hrow5,(KeptT.alloc w _).trans hk5,fun h1=>(Keeps1.below _ (z0b w _)).trans (hk15 h1)⟩
          ·by_cases k5:k=5
           ·subst k5
            rw[hte,if_pos rfl] at hl ⊢;have hlen:=z6z (sep:=[124]) (ks:=ks) (fun x hx=>by simp);have K34:=Lib.hid fun w1 (h1:RowB B w0 w1 (.slice A0 t.length c0) t)=>y0p ks ih ⟨#[124]⟩ (by show 1≤1;omega) B w0 w1 (.slice A0 t.length c0) t A c (levK 5) d g g' h1 (z9m hk) hf2 (by show 2≤3;omega) hl (by rw[List.length_append] at hl;omega) (fun h0=>by exact absurd h0 (by decide))
            simp only[valR];obtain⟨m,hm⟩:∃ m,m=ks.length:=⟨_,rfl⟩;rw[←hm] at K34 ⊢;have hJ:((⟨#[124]⟩:ByteArray).data.toList)=([124]:Bs):=rfl;rw[hJ] at K34;obtain⟨J,hJ2⟩:∃ J,J=joinT [124] ks:=⟨_,rfl⟩;rw[←hJ2] at K34 ⊢;clear h hk hf hf2 hlev ht hkz hm ih hl hte K33 hlen hJ hJ2;go_enter Tryd.func37,Tryd.ntmps37;go_wp2_with (go_at_call 52;((with_reducible refine(K34.out _ (H.out.alloc _)).mono ?_));rintro e w5 ⟨v5,t5,rfl,hc5,hrow5,hk5,hk15⟩);go_ret;exact⟨_,_,rfl,hc5,hrow5,(KeptT.alloc w _).trans hk5,fun h1=>(Keeps1.below _ (z0b w _)).trans (hk15 h1)⟩
           ·have hks:=hkz k4 k5 k6 k7
            subst hks;have e0:textE (.mk k S [] lo hi n)=[]:=by rw[hte,joinT]
            rw[e0,List.append_nil];simp only[valR];have b1:(k==1)=false:=by simp[k1]
            have b2:(k==2)=false:=by simp[k2]
            have b3:(k==3)=false:=by simp[k3]
            have b4:(k==4)=false:=by simp[k4]
            have b5:(k==5)=false:=by simp[k5]
            have b6:(k==6)=false:=by simp[k6]
            have b7:(k==7)=false:=by simp[k7]
            clear h hk hf hf2 hlev ht hkz ih hl hte K33 e0 k1 k2 k3 k4 k5 k6 k7;go_enter Tryd.func37,Tryd.ntmps37;go_wp2;go_ret;exact⟨_,t,rfl,CutT.refl _,H.out.alloc _,KeptT.alloc w _,fun _=>Keeps1.below _ (z0b w _)⟩
      ·have b200:decide ((200:Int)<(t.length:Int))=true:=by simp;omega
       have b200':decide (200<t.length)=true:=by simp;omega
       simp only[valR];obtain⟨m,hm⟩:∃ m,m=ks.length:=⟨_,rfl⟩;rw[←hm];obtain⟨T,hT⟩:∃ T,T=textE (.mk k S ks lo hi n):=⟨_,rfl⟩;rw[←hT];clear h hk hf hf2 hlev ht hkz hm ih hl hT k6 k7;go_enter Tryd.func37,Tryd.ntmps37;go_wp2;go_ret;exact⟨_,t,rfl,(CutT.refl t).past _ (by omega),H.out.alloc _,KeptT.alloc w _,fun _=>Keeps1.below _ (z0b w _)⟩
     ·cases hf2
theorem z9s (lo hi:Int):(signT lo hi).length≤5:=by
 unfold signT
 split
 ·simp
 ·split
  ·simp
  ·split
   ·simp
   ·split
    ·simp
    ·split <;> simp
theorem y2u (r:Re):(textE r).length+1≤1310 * sizeE r:=by
 induction r using Re.ind with
 | h k S ks lo hi n ih=>
   have tl:∀ (sep:Bs),sep.length≤1→∀ l:List Re,(∀ x∈l,(textE x).length+1≤1310 * sizeE x)→(tailT sep l).length≤1310 * sizeL l:=by
    intro sep hs l
    induction l with
    | nil=>intro _;simp[tailT]
    | cons x l ih2=>
      intro h;have h1:=h x (by simp);have h2:=ih2 (fun y hy=>h y (by simp[hy]));rw[tailT,sizeL];simp only[List.length_append];omega
   have jl:∀ (sep:Bs),sep.length≤1→(joinT sep ks).length≤1310 * sizeL ks:=by
    intro sep hs
    cases ks with
    | nil=>simp[joinT]
    | cons x l=>
      have h1:=ih x (by simp);have h2:=tl sep hs l (fun y hy=>ih y (by simp[hy]));rw[joinT,sizeL];simp only[List.length_append];omega
   have j0:=jl [] (by simp);have j1:=jl [124] (by simp);have hs:=y08 S;have hg:=z9s lo hi;rw[textE,sizeE]
   split
   ·omega
   ·split
    ·simp;omega
    ·split
     ·simp;omega
     ·split
      ·simp only[List.length_cons,List.length_append,List.length_nil];omega
      ·split
       ·simp only[List.length_append];omega
       ·split <;> omega
def printE (r:Re):ByteArray × Int:=match form r 3 0 0 with
 | none=>(⟨#[]⟩,5)
 | some _=>if 200<(textE r).length then (⟨#[]⟩,2) else (⟨(textE r).toArray⟩,0)
theorem y62 {w:World} {B g cap:Nat} {t:Bs} (h:w.ownsRow B 5 1 (.slice (some ⟨g,0,none⟩) t.length cap) t.length (byteCells t)):
  (convert 99 9 (.slice (some ⟨g,0,none⟩) t.length cap)).run Tryd.prog w= .ok (.string ⟨t.toArray⟩) w:=by
 refine run_convert_bytes_back (P:=Tryd.prog) w 99 9 5 ⟨g,0,none⟩ cap t Tryd.underlying99 Tryd.underlying5 Tryd.underlying9 ?_;intro j hj;exact h.cells (g:=g) rfl j _ (by simp[byteCells,Lib.byteCells,hj])
theorem y88 (w:World):(convert 99 9 (.slice none 0 0)).run Tryd.prog w= .ok (.string ⟨#[]⟩) w:=by
 rw[run_convert_bytes_string w 99 9 5 none 0 0 Tryd.underlying99 Tryd.underlying5 Tryd.underlying9]
 rfl
theorem y7w {w:World} {B cap:Nat} {A:Option Addr} {t:Bs} (h:w.ownsRow B 5 1 (.slice A t.length cap) t.length (byteCells t)):(convert 99 9 (.slice A t.length cap)).run Tryd.prog w= .ok (.string ⟨t.toArray⟩) w:=by
 rcases z3r h with ⟨e,h0⟩ | ⟨g,cap',e,_⟩
 ·have ht:t=[]:=List.length_eq_zero_iff.1 h0
  injection e with e1 e2 e3
  subst e1 e3;subst ht;exact y88 w
 ·injection e with e1 e2 e3
  subst e1 e3;exact y62 h
theorem x2h (w:World):Shp w.heap.size (w.alloc (.cells #[.int .i64 0] 97)) 0:=⟨by simp[go_sem],by simp[go_sem]⟩
def PostW (w:World) (R:ByteArray × Int) (e:Ending) (w':World):Prop:=e= .returned (.tuple #[.string R.1,.int .i64 R.2])∧Below w.heap.size w w'
theorem y7f (r:Re) (A:Option Addr) (c:Nat) (w:World) (hk:Kids (Lt w.heap.size) w A r) (hs:sizeE r≤600):
  Calls Tryd.prog 27 #[valR r A c] w (PostW w (printE r)):=by
 obtain⟨R,hR⟩:∃ R,R=printE r:=⟨_,rfl⟩;rw[←hR];unfold printE at hR;have htl:=y2u r;obtain⟨F,hF⟩:∃ F,F=form r 3 0 0:=⟨_,rfl⟩;rw[←hF] at hR
 have K20:Hid (∀ w1,Below w.heap.size w w1→Shp (w.heap.size+1) w1 0→Calls Tryd.prog 36 #[.pointer (some ⟨w.heap.size+1,0,none⟩),valR r A c,.int .i64 3,.int .i64 0] w1 (PostF (w.heap.size+1) w1 F)):=Lib.hid fun w1 h1 h2=>by
  rw[hF];exact y9o r (w.heap.size+1) 0 A c 3 0 w1 (hk.mk_off h1 (by omega)) h2 (by omega) (by omega) (by omega)
 have K21:Hid (∀ w1 g,F=some g→Below w.heap.size w w1→Calls Tryd.prog 37 #[.slice none 0 0,valR r A c] w1 (WrtC w1.heap.size w1 w1 (.slice none 0 0) [] (textE r))):=Lib.hid fun w1 g h1 h2=>
  x22 r w1.heap.size w1 w1 (.slice none 0 0) [] A c 3 0 0 g (Row1.nil 5 1 w1) (hk.next h2) (hF.symm.trans h1) (by omega) (by simp;omega)
 obtain⟨T,hT⟩:∃ T,T=textE r:=⟨_,rfl⟩;rw[←hT] at hR K21 htl;clear hk hF hT;obtain⟨k,S,ks,lo,hi,n⟩:=r;simp only[valR] at K20 K21 ⊢;obtain⟨m,hm⟩:∃ m,m=ks.length:=⟨_,rfl⟩;rw[←hm] at K20 K21 ⊢;obtain⟨s0,hs0⟩:∃ s0:Int,s0=S.1.toNat:=⟨_,rfl⟩;obtain⟨s1,hs1⟩:∃ s1:Int,s1=S.2.1.toNat:=⟨_,rfl⟩;obtain⟨s2,hs2⟩:∃ s2:Int,s2=S.2.2.1.toNat:=⟨_,rfl⟩;obtain⟨s3,hs3⟩:∃ s3:Int,s3=S.2.2.2.toNat:=⟨_,rfl⟩;rw[←hs0,←hs1,←hs2,←hs3] at K20 K21 ⊢
 have HBX:Hid (∀ w1,((w.alloc (.cells #[.int .i64 k,.int .u64 s0,.int .u64 s1,.int .u64 s2,.int .u64 s3,.slice A m c,.int .i64 lo,.int .i64 hi,.int .i64 n] 27)).alloc (.cells #[.int .i64 0] 97)).grownBy w1 (some (w.heap.size+1))→∀ j u,(#[.int .i64 k,.int .u64 s0,.int .u64 s1,.int .u64 s2,.int .u64 s3,.slice A m c,.int .i64 lo,.int .i64 hi,.int .i64 n]:Array Value)[j]?=some u→w1.cell? ⟨w.heap.size,j,none⟩=some u):=Lib.hid fun w1 hg j u hu=>
  hg.cell (a:=⟨w.heap.size,j,none⟩) (y0g w _ _ 27 j u (by simpa using hu)) (by intro e;injection e with e;have:w.heap.size=w.heap.size+1:=e;omega)
 have HSH:Hid (Shp (w.heap.size+1) ((w.alloc (.cells #[.int .i64 k,.int .u64 s0,.int .u64 s1,.int .u64 s2,.int .u64 s3,.slice A m c,.int .i64 lo,.int .i64 hi,.int .i64 n] 27)).alloc (.cells #[.int .i64 0] 97)) 0):=Lib.hid (by have:=x2h (w.alloc (.cells #[.int .i64 k,.int .u64 s0,.int .u64 s1,.int .u64 s2,.int .u64 s3,.slice A m c,.int .i64 lo,.int .i64 hi,.int .i64 n] 27));simpa using this);clear hm hs0 hs1 hs2 hs3
 cases F with
 | none=>
   have HX:Hid (R=(⟨#[]⟩,5)):=Lib.hid hR;clear hR;go_enter Tryd.func27,Tryd.ntmps27;go_wp2_with (go_at_call 36;((with_reducible refine(K20.out _ (z0e _ _ _) HSH.out).mono ?_));rintro e w1 ⟨hg1,rfl⟩)
   go_ret2
   rw[HX.out];exact⟨rfl,z3q (z0e _ _ _) hg1 (by simp;omega) (by omega)⟩
 | some g=>
   have HR:=Lib.hid hR;clear hR;have K21:Hid (∀ w1,Below w.heap.size w w1→Calls Tryd.prog 37 #[.slice none 0 0,.agg #[.int .i64 k,.int .u64 s0,.int .u64 s1,.int .u64 s2,.int .u64 s3,.slice A m c,.int .i64 lo,.int .i64 hi,.int .i64 n]] w1 (WrtC w1.heap.size w1 w1 (.slice none 0 0) [] T)):=Lib.hid fun w1 h1=>K21.out w1 g rfl h1
   by_cases h200:200<T.length
   ·have HX:Hid (R=(⟨#[]⟩,2)):=Lib.hid (by rw[HR.out];exact if_pos h200)
    go_enter Tryd.func27,Tryd.ntmps27;go_wp2_with (first | (go_at_call 36;((with_reducible refine(K20.out _ (z0e _ _ _) HSH.out).mono ?_));rintro e w1 ⟨hg1,rfl,_⟩;have HB1:=Lib.hid (z3q (z0e _ _ _) hg1 (by simp;omega) (by omega));have c0:=HBX.out _ hg1 0 _ rfl;have c1:=HBX.out _ hg1 1 _ rfl;have c2:=HBX.out _ hg1 2 _ rfl;have c3:=HBX.out _ hg1 3 _ rfl;have c4:=HBX.out _ hg1 4 _ rfl;have c5:=HBX.out _ hg1 5 _ rfl;have c6:=HBX.out _ hg1 6 _ rfl;have c7:=HBX.out _ hg1 7 _ rfl;have c8:=HBX.out _ hg1 8 _ rfl;clear hg1) | (go_at_call 37;((with_reducible refine(K21.out _ HB1.out).mono ?_));rintro e w2 ⟨v2,t2,rfl,hc2,hrow2,_,_⟩;obtain⟨A2,c2',rfl⟩:=z63 hrow2.row;have h2:=hc2.2.1 h200;have hle2:=hc2.2.2;have HB2:=Lib.hid (HB1.out.trans (hrow2.below.mono HB1.out.size));clear hc2 hrow2))
    go_ret2
    rw[HX.out];exact⟨rfl,HB2.out⟩
   ·have HX:Hid (R=(⟨T.toArray⟩,0)):=Lib.hid (by rw[HR.out];exact if_neg h200)
    go_enter Tryd.func27,Tryd.ntmps27;go_wp2_with (first | (go_at_call 36;((with_reducible refine(K20.out _ (z0e _ _ _) HSH.out).mono ?_));rintro e w1 ⟨hg1,rfl,_⟩;have HB1:=Lib.hid (z3q (z0e _ _ _) hg1 (by simp;omega) (by omega));have c0:=HBX.out _ hg1 0 _ rfl;have c1:=HBX.out _ hg1 1 _ rfl;have c2:=HBX.out _ hg1 2 _ rfl;have c3:=HBX.out _ hg1 3 _ rfl;have c4:=HBX.out _ hg1 4 _ rfl;have c5:=HBX.out _ hg1 5 _ rfl;have c6:=HBX.out _ hg1 6 _ rfl;have c7:=HBX.out _ hg1 7 _ rfl;have c8:=HBX.out _ hg1 8 _ rfl;clear hg1) | (go_at_call 37;((with_reducible refine(K21.out _ HB1.out).mono ?_));rintro e w2 ⟨v2,t2,rfl,hc2,hrow2,_,_⟩;obtain rfl:=hc2.1 (by omega);obtain⟨A2,c2',rfl⟩:=z63 hrow2.row;have HB2:=Lib.hid (HB1.out.trans (hrow2.below.mono HB1.out.size));have hcv:=y7w hrow2.row;clear hc2 hrow2))
    go_ret2
    rw[HX.out];exact⟨rfl,HB2.out⟩
def mayE (r:Re):Bool:=match form r 3 0 0 with
 | none=>false
 | some _=>decide ((textE r).length≤200)
theorem x09 (r:Re) (A:Option Addr) (c:Nat) (w:World) (hk:Kids (Lt w.heap.size) w A r) (hs:sizeE r≤600):
  Calls Tryd.prog 14 #[valR r A c] w fun e w'=>e= .returned (.bool (mayE r))∧Below w.heap.size w w':=by
 have K9:Hid (∀ w1,Below w.heap.size w w1→Calls Tryd.prog 27 #[valR r A c] w1 (PostW w1 (printE r))):=Lib.hid fun w1 h1=>y7f r A c w1 (hk.next h1) hs
 obtain⟨R,hR⟩:∃ R,R=printE r:=⟨_,rfl⟩;rw[←hR] at K9
 have hm:mayE r=(R.2==0):=by
  rw[hR];unfold mayE printE
  cases form r 3 0 0 with
  | none=>rfl
  | some g=>
    by_cases h:200<(textE r).length
    ·simp only[if_pos h];simp;omega
    ·simp only[if_neg h];simp;omega
 rw[hm];clear hR hk hm;obtain⟨k,S,ks,lo,hi,n⟩:=r;simp only[valR] at K9 ⊢;obtain⟨R1,R2⟩:=R;go_enter Tryd.func14,Tryd.ntmps14;go_wp2_with (go_at_call 27;((with_reducible refine(K9.out _ (z0b _ _)).mono ?_));rintro e w1 ⟨rfl,hb1⟩);go_ret;exact⟨rfl,(z0b _ _).trans (hb1.mono (by simp))⟩
end Go.Proofs.YtejgbpbljdhndaaDoor
