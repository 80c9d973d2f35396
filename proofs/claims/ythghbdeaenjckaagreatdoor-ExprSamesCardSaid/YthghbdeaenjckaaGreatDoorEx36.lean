import Derived.Test.YthghbdeaenjckaaGreatDoorEx41
namespace Go.Proofs.YthghbdeaenjckaaGreatDoor
open Go Go.RowKit
set_option maxRecDepth 100000
set_option maxHeartbeats 8000000
theorem less_eq:∀ (x y:List UInt8),Op.bytesLess x y=decide (x<y)
 | [],[]=>by simp[Op.bytesLess]
 | _::_,[]=>by simp[Op.bytesLess]
 | [],_::_=>by simp[Op.bytesLess]
 | a::x,b::y=>by
   rw[Op.bytesLess,less_eq x y];simp only[List.cons_lt_cons_iff];by_cases h1:a<b <;> by_cases h2:a=b <;> by_cases h3:x<y <;> simp[h1,h2,h3]
theorem putN_at (n:Bs):∀ (a b:List Bs),(∀ y∈a,y<n)→putN (a++b) n=a++putN b n
 | [],_,_=>rfl
 | x::a,b,h=>by rw[List.cons_append,putN,if_pos (h x (by simp)),putN_at n a b (fun y hy=>h y (by simp[hy])),List.cons_append]
def RowT (w:World) (v:Value) (l:List Bs):Prop:=(l=[]∧v= .slice none 0 0)∨∃ b c,v= .slice (some ⟨b,0,none⟩) l.length c∧l.length≤c∧b<w.heap.size∧∀ j y,l[j]?=some y→w.cell? ⟨b,j,none⟩=some (strV y)
theorem RowT.low {w w':World} {v:Value} {l:List Bs} (h:RowT w v l) (hb:Below w.heap.size w w'):RowT w' v l:=by
 rcases h with h | ⟨b,c,e,h1,hlt,hc⟩
 ·exact .inl h
 ·exact .inr ⟨b,c,e,h1,Nat.lt_of_lt_of_le hlt hb.size,fun j y hj=>(hb.cell (p:=⟨b,j,none⟩) hlt).trans (hc j y hj)⟩
theorem RowT.rowS {w:World} {v:Value} {l:List Bs} (h:RowT w v l):RowS w v l:=by
 rcases h with ⟨rfl,rfl⟩ | ⟨b,c,e,h1,hlt,hc⟩
 ·exact⟨none,0,rfl,.inl rfl⟩
 ·exact⟨_,c,e,.inr ⟨b,rfl,hlt,hc⟩⟩
theorem own_rowT {B:Nat} {w:World} {q n cap:Nat} {L:List Bs} (h:w.ownsRow B 9 1 (.slice (some ⟨q,0,none⟩) n cap) n (L.map strV)):RowT w (.slice (some ⟨q,0,none⟩) n cap) L:=by
 have hn:n=L.length:=by have:=h.1;simp at this;exact this.symm
 subst hn;refine .inr ⟨q,cap,rfl,(own_cap h).1,(h.lt q rfl).2,fun j y hj=>?_⟩;have hjl:j<L.length:=(List.getElem?_eq_some_iff.1 hj).1;rw[h.cellAt j (by omega),List.getElem?_map,hj];rfl
theorem strV_one (l:List Bs):∀ u∈l.map strV,u.oneCell'=true:=by
 intro u hu;obtain⟨y,_,rfl⟩:=List.mem_map.1 hu
 rfl
structure PutR (w:World) (g n cap:Nat) (L:List Bs) (W:World):Prop where
 row:W.ownsRow w.heap.size 9 1 (.slice (some ⟨g,0,none⟩) n cap) n (L.map strV)
 low:Below w.heap.size w W
theorem PutR.app {w W w':World} {g n cap g' m cap':Nat} {L:List Bs} {xs:List Value} (h:PutR w g n cap L W) (k:Nat) (M:List Bs) (ho:w'.ownsRow w.heap.size 9 1 (.slice (some ⟨g',0,none⟩) m cap') m xs) (hg:W.grownBy w' (some g)) (hm:m=k) (hx:xs=(L++M).map strV):PutR w g' k cap' (L++M) w':=by
 subst hm;subst hx;exact⟨ho,h.low.grown hg h.low.size (fun k hk=>by injection hk with hk;rw[←hk];exact(h.row.lt g rfl).1)⟩
theorem PutR.box {w W:World} {g n cap:Nat} {L:List Bs} (h:PutR w g n cap L W) (o:Obj):PutR w g n cap L (W.alloc o):=⟨h.row.alloc o,h.low.alloc h.low.size o⟩
theorem putr_start (w:World):PutR w w.heap.size 0 0 [] (w.alloc (.cells #[] 9)):=⟨World.ownsRow_lit w #[] 0 (Nat.le_refl _) (by decide) rfl,one_boxX _ _⟩
theorem put_nil (nm:Bs) (w:World):
  Calls Tryz.prog 37 #[.slice none 0 0,.string ⟨nm.toArray⟩] w fun e w'=>∃ v,e= .returned v∧RowT w' v (putN [] nm)∧Below w.heap.size w w':=by
 obtain⟨j0,hj0,hy0,hy1,hy2⟩:=info_parts infoS;obtain⟨N,hN⟩:∃ N:ByteArray,N=⟨nm.toArray⟩:=⟨_,rfl⟩;rw[←hN];have HN:=Lib.hid hN;have HO:=Lib.hid (putr_start w);clear hN;go_enter Tryz.func37,Tryz.ntmps37;go_wp2
 go_loopw [5] (fun i wr=>i= .int .i64 0∧wr=w) (fun _ _=>0)
 case atStart=>exact⟨rfl,rfl⟩
 case round=>
  obtain⟨rfl,rfl⟩:=hrel
  go_wp2_with (first
   | (at_builtin;refine wpList_append_opt rfl (.tmp 34) (.tmp 37) 49 rfl wr.heap.size 9 j0 (.string ⟨#[]⟩) 1 16 Tryz.underlying49 hj0 hy0 hy1 hy2 rfl (by decide) _ 0 0 (([]:List Bs).map strV) rfl HO.out.row (none) 0 0 ([]) rfl rfl (.inl rfl) (fun u hu=>by cases hu) (by first | decide | (unfold maxLen;omega)) (by omega) (by first | omega | (simp <;> omega)) ?_;intro g1 cap1 w1 ho hgr hg;have H1:=Lib.hid (HO.out.app 0 [] ho hgr (by omega) (by simp));have hz1:=H1.out.low.size;clear ho hgr hg)
   | (at_builtin;refine wpList_append_opt rfl (.tmp 39) (.tmp 41) 49 rfl wr.heap.size 9 j0 (.string ⟨#[]⟩) 1 16 Tryz.underlying49 hj0 hy0 hy1 hy2 rfl (by decide) g1 0 cap1 (([]:List Bs).map strV) rfl (H1.out.box _).row (some ⟨w1.heap.size,0,none⟩) 1 1 ([.string N]) rfl rfl (.inr ⟨_,rfl,fun j u hu=>new_cells w1 9 #[.string N] j u hu⟩) (fun u hu=>by rw[List.mem_singleton] at hu;subst hu;rfl) (by first | decide | (unfold maxLen;omega)) (by omega) (by first | omega | (simp <;> omega)) ?_;intro g2 cap2 w2 ho hgr hg;have H2:=Lib.hid ((H1.out.box (.cells #[.string N] 9)).app 1 [nm] ho hgr (by omega) (by simp[strV,HN.out]));have hz2:=H2.out.low.size;clear ho hgr hg)
   | (at_builtin;refine wpList_append_opt rfl (.tmp 43) (.tmp 46) 49 rfl wr.heap.size 9 j0 (.string ⟨#[]⟩) 1 16 Tryz.underlying49 hj0 hy0 hy1 hy2 rfl (by decide) g2 1 cap2 ([.string N]) rfl (by have:=H2.out.row;simpa[strV,HN.out] using this) (none) 0 0 ([]) rfl rfl (.inl rfl) (fun u hu=>by cases hu) (by first | decide | (unfold maxLen;omega)) (by omega) (by first | omega | (simp <;> omega)) ?_;intro g3 cap3 w3 ho hgr hg;have H3:=Lib.hid (H2.out.app 1 [] ho hgr (by omega) (by simp[strV,HN.out]));clear ho hgr hg))
  go_ret;exact⟨_,rfl,own_rowT (by simpa[putN] using H3.out.row),H3.out.low⟩
theorem put_row (nm:Bs) (l:List Bs) (b c:Nat) (w:World) (hl:l.length≤1000000) (hcap:l.length≤c) (hb:b<w.heap.size) (hcell:∀ j y,l[j]?=some y→w.cell? ⟨b,j,none⟩=some (strV y)):
  Calls Tryz.prog 37 #[.slice (some ⟨b,0,none⟩) l.length c,.string ⟨nm.toArray⟩] w fun e w'=>∃ v,e= .returned v∧RowT w' v (putN l nm)∧Below w.heap.size w w':=by
 obtain⟨j0,hj0,hy0,hy1,hy2⟩:=info_parts infoS;obtain⟨N,hN⟩:∃ N:ByteArray,N=⟨nm.toArray⟩:=⟨_,rfl⟩;rw[←hN];have HN:=Lib.hid hN;have HO:=Lib.hid (putr_start w);have HC:=Lib.hid hcell;have HB:=Lib.hid hb;obtain⟨n,hn⟩:∃ n,n=l.length:=⟨_,rfl⟩;rw[←hn] at hl hcap ⊢;have HL:=Lib.hid hn;obtain⟨R,hR⟩:∃ R,R=putN l nm:=⟨_,rfl⟩;have HR:=Lib.hid hR;rw[←hR];clear hN hcell hb hn hR;go_enter Tryz.func37,Tryz.ntmps37;go_wp2
 go_loopw [5] (fun i wr=>∃ j:Nat,j≤n∧i= .int .i64 j∧Hid (∀ y∈l.take j,y<nm)∧wr=w) (fun i _=>n - (intOf i).toNat)
 case atStart=>exact⟨0,by omega,rfl,Lib.hid (by simp),rfl⟩
 case round=>
  obtain⟨j,hj,rfl,HT,rfl⟩:=hrel;have HLJ:Hid (((l.take j).map strV).length=j * 1):=Lib.hid (by rw[List.length_map,List.length_take,←HL.out];omega);have HLD:Hid (((l.drop j).map strV).length=(n - j) * 1):=Lib.hid (by rw[List.length_map,List.length_drop,←HL.out];omega)
  have HA1:Hid (∀ W,Below wr.heap.size wr W→∀ k u,((l.take j).map strV)[k]?=some u→W.cell? ((⟨b,0,none⟩:Addr).add k)=some u):=Lib.hid fun W hb k u hu=>by
   rw[hb.cell (by rw[blockX_add];exact HB.out)];rw[List.getElem?_map,Option.map_eq_some_iff] at hu;obtain⟨y,hy,rfl⟩:=hu;rw[List.getElem?_take] at hy
   split at hy
   ·have:=HC.out k y hy
    rw[Addr.add_lit,Nat.zero_add];exact this
   ·cases hy
  have HA3:Hid (∀ W,Below wr.heap.size wr W→∀ k u,((l.drop j).map strV)[k]?=some u→W.cell? ((⟨b,j,none⟩:Addr).add k)=some u):=Lib.hid fun W hb k u hu=>by
   rw[hb.cell (by rw[blockX_add];exact HB.out)];rw[List.getElem?_map,Option.map_eq_some_iff] at hu;obtain⟨y,hy,rfl⟩:=hu;rw[List.getElem?_drop] at hy;rw[Addr.add_lit];exact HC.out (j+k) y hy
  by_cases a:j<n
  ·obtain⟨y,hy⟩:=getX_of_lt HL.out a
   have c0:=HC.out j y hy;obtain⟨Y,hY⟩:∃ Y:ByteArray,Y=⟨y.toArray⟩:=⟨_,rfl⟩;rw[strV,←hY] at c0;have eY:Y.toList=y:=by rw[hY,toList_data]
   have eN:N.toList=nm:=by rw[HN.out,toList_data]
   have hls:Op.bytesLess Y.toList N.toList=decide (y<nm):=by rw[less_eq,eY,eN]
   have HY:=Lib.hid hy;have hYd:Y=⟨y.toArray⟩:=hY;clear hY;by_cases hlt:y<nm
   ·have hls1:Op.bytesLess Y.toList N.toList=true:=by rw[hls];simp[hlt]
    have HT2:Hid (∀ y∈l.take (j+1),y<nm):=Lib.hid (by
     obtain⟨hk,e⟩:=List.getElem?_eq_some_iff.1 HY.out;rw[List.take_succ_eq_append_getElem hk,e];intro z hz
     rcases List.mem_append.1 hz with hz | hz
     ·exact HT.out z hz
     ·rw[List.mem_singleton] at hz;rw[hz];exact hlt)
    clear hls hy eY eN hlt hYd;go_wp2
    go_roundw
    case rel=>exact⟨j+1,by omega,by go_num,HT2,trivial⟩
    case measure=>simp[intOf];omega
   ·have hls1:Op.bytesLess Y.toList N.toList=false:=by rw[hls];simp[hlt]
    have hd:l.drop j=y::l.drop (j+1):=by
     obtain⟨hk,e⟩:=List.getElem?_eq_some_iff.1 hy;rw[←e];exact(List.drop_eq_getElem_cons hk)
    by_cases he:y=nm
    ·have hR2:R=l:=by
      rw[HR.out];have:=putN_at nm (l.take j) (l.drop j) HT.out;rw[List.take_append_drop,hd,putN,if_neg hlt,if_pos he,←hd,List.take_append_drop] at this;exact this
     have HR2:=Lib.hid hR2;have e1:Y=N:=by rw[hYd,he,HN.out]
     subst e1;clear hls hy eY eN hlt he hd hR2 hYd;go_wp2;go_ret;exact⟨_,rfl,by rw[HR2.out,HL.out];exact .inr ⟨b,c,rfl,by rw[←HL.out];exact hcap,HB.out,HC.out⟩,Below.refl _ _⟩
    ·have hR2:R=l.take j++nm::l.drop j:=by
      rw[HR.out];have:=putN_at nm (l.take j) (l.drop j) HT.out;rw[List.take_append_drop,hd,putN,if_neg hlt,if_neg he,←hd] at this;exact this
     have HR2:=Lib.hid hR2;have e1:(Y.toList==N.toList)=false:=by rw[eY,eN];simpa using he
     clear hls hy eY eN hlt he hd hR2 hYd
     go_wp2_with (first
      | (at_builtin;refine wpList_append_opt rfl (.tmp 34) (.tmp 37) 49 rfl wr.heap.size 9 j0 (.string ⟨#[]⟩) 1 16 Tryz.underlying49 hj0 hy0 hy1 hy2 rfl (by decide) _ 0 0 ((([]:List Bs).map strV)) rfl HO.out.row (some ⟨b,0,none⟩) j c ((l.take j).map strV) rfl HLJ.out (.inr ⟨_,rfl,HA1.out _ HO.out.low⟩) (strV_one _) (by first | decide | (unfold maxLen;omega)) (by omega) (by first | omega | (simp <;> omega)) ?_;intro g1 cap1 w1 ho hgr hg;have H1:=Lib.hid (HO.out.app j (l.take j) ho hgr (by omega) (by simp));have hz1:=H1.out.low.size;clear ho hgr hg)
      | (at_builtin;refine wpList_append_opt rfl (.tmp 39) (.tmp 41) 49 rfl wr.heap.size 9 j0 (.string ⟨#[]⟩) 1 16 Tryz.underlying49 hj0 hy0 hy1 hy2 rfl (by decide) g1 j cap1 ((([]:List Bs)++l.take j).map strV) rfl (H1.out.box _).row (some ⟨w1.heap.size,0,none⟩) 1 1 ([.string N]) rfl rfl (.inr ⟨_,rfl,fun j u hu=>new_cells w1 9 #[.string N] j u hu⟩) (fun u hu=>by rw[List.mem_singleton] at hu;subst hu;rfl) (by first | decide | (unfold maxLen;omega)) (by omega) (by first | omega | (simp <;> omega)) ?_;intro g2 cap2 w2 ho hgr hg;have H2:=Lib.hid ((H1.out.box (.cells #[.string N] 9)).app (j+1) [nm] ho hgr rfl (by simp[strV,HN.out]));have hz2:=H2.out.low.size;clear ho hgr hg)
      | (at_builtin;refine wpList_append_opt rfl (.tmp 43) (.tmp 46) 49 rfl wr.heap.size 9 j0 (.string ⟨#[]⟩) 1 16 Tryz.underlying49 hj0 hy0 hy1 hy2 rfl (by decide) g2 (j+1) cap2 ((([]:List Bs)++l.take j++[nm]).map strV) rfl H2.out.row (some ⟨b,j,none⟩) (n - j) (c - j) ((l.drop j).map strV) rfl HLD.out (.inr ⟨_,rfl,HA3.out _ H2.out.low⟩) (strV_one _) (by first | decide | (unfold maxLen;omega)) (by omega) (by first | omega | (simp <;> omega)) ?_;intro g3 cap3 w3 ho hgr hg;have H3:=Lib.hid (H2.out.app (j+1+(n - j)) (l.drop j) ho hgr rfl (by simp[strV]));clear ho hgr hg))
     go_ret;exact⟨_,rfl,by rw[HR2.out];have:=own_rowT H3.out.row;simpa using this,H3.out.low⟩
  ·have hjn:j=n:=by omega
   have hR2:R=l.take j++nm::l.drop j:=by
    rw[HR.out];have:=putN_at nm (l.take j) (l.drop j) HT.out;have e:l.drop j=[]:=List.drop_of_length_le (by rw[←HL.out];omega);rw[List.take_append_drop,e,putN] at this;rw[e];exact this
   have HR2:=Lib.hid hR2;clear hR2 a;have hjn2:n=j:=hjn.symm;clear hjn;subst hjn2
   go_wp2_with (first
    | (at_builtin;refine wpList_append_opt rfl (.tmp 34) (.tmp 37) 49 rfl wr.heap.size 9 j0 (.string ⟨#[]⟩) 1 16 Tryz.underlying49 hj0 hy0 hy1 hy2 rfl (by decide) _ 0 0 ((([]:List Bs).map strV)) rfl HO.out.row (some ⟨b,0,none⟩) n c ((l.take n).map strV) rfl HLJ.out (.inr ⟨_,rfl,HA1.out _ HO.out.low⟩) (strV_one _) (by first | decide | (unfold maxLen;omega)) (by omega) (by first | omega | (simp <;> omega)) ?_;intro g1 cap1 w1 ho hgr hg;have H1:=Lib.hid (HO.out.app n (l.take n) ho hgr (by omega) (by simp));have hz1:=H1.out.low.size;clear ho hgr hg)
    | (at_builtin;refine wpList_append_opt rfl (.tmp 39) (.tmp 41) 49 rfl wr.heap.size 9 j0 (.string ⟨#[]⟩) 1 16 Tryz.underlying49 hj0 hy0 hy1 hy2 rfl (by decide) g1 n cap1 ((([]:List Bs)++l.take n).map strV) rfl (H1.out.box _).row (some ⟨w1.heap.size,0,none⟩) 1 1 ([.string N]) rfl rfl (.inr ⟨_,rfl,fun n u hu=>new_cells w1 9 #[.string N] n u hu⟩) (fun u hu=>by rw[List.mem_singleton] at hu;subst hu;rfl) (by first | decide | (unfold maxLen;omega)) (by omega) (by first | omega | (simp <;> omega)) ?_;intro g2 cap2 w2 ho hgr hg;have H2:=Lib.hid ((H1.out.box (.cells #[.string N] 9)).app (n+1) [nm] ho hgr rfl (by simp[strV,HN.out]));have hz2:=H2.out.low.size;clear ho hgr hg)
    | (at_builtin;refine wpList_append_opt rfl (.tmp 43) (.tmp 46) 49 rfl wr.heap.size 9 j0 (.string ⟨#[]⟩) 1 16 Tryz.underlying49 hj0 hy0 hy1 hy2 rfl (by decide) g2 (n+1) cap2 ((([]:List Bs)++l.take n++[nm]).map strV) rfl H2.out.row _ 0 _ ((([]:List Bs)).map strV) rfl rfl (.inl rfl) (strV_one _) (by first | decide | (unfold maxLen;omega)) (by omega) (by first | omega | (simp <;> omega)) ?_;intro g3 cap3 w3 ho hgr hg;have H3:=Lib.hid (H2.out.app (n+1) [] ho hgr rfl (by simp[strV]));clear ho hgr hg))
   all_goals go_ret
   all_goals exact⟨_,rfl,by rw[HR2.out,List.drop_of_length_le (by rw[←HL.out];exact Nat.le_refl _)];have:=own_rowT H3.out.row;simpa using this,H3.out.low⟩
theorem put_any (nm:Bs) (l:List Bs) (v:Value) (w:World) (hl:l.length≤1000000) (h:RowT w v l):
  Calls Tryz.prog 37 #[v,.string ⟨nm.toArray⟩] w fun e w'=>∃ v,e= .returned v∧RowT w' v (putN l nm)∧Below w.heap.size w w':=by
 rcases h with ⟨rfl,rfl⟩ | ⟨b,c,rfl,h1,h2,h3⟩
 ·exact put_nil nm w
 ·exact put_row nm l b c w hl h1 h2 h3
theorem putN_len (n:Bs):∀ l:List Bs,(putN l n).length≤l.length+1
 | []=>by simp[putN]
 | x::l=>by
   have:=putN_len n l;rw[putN]
   split
   ·rw[List.length_cons,List.length_cons];omega
   ·split <;> simp
theorem fold_len:∀ (v l:List Bs),(v.foldl putN l).length≤l.length+v.length
 | [],l=>by simp
 | x::v,l=>by
   have h1:=fold_len v (putN l x);have h2:=putN_len x l;rw[List.foldl_cons,List.length_cons];omega
mutual
theorem varsX_len:∀ e:Ex,(varsX e).length≤sizeX e
 | .mk k n nm op ks=>by
   have:=varsL_len ks;rw[varsX,sizeX,List.length_append]
   split <;> simp <;> omega
theorem varsL_len:∀ l:List Ex,(varsL l).length≤sizeXL l
 | []=>by simp[varsL]
 | x::r=>by
   have h1:=varsX_len x;have h2:=varsL_len r;rw[varsL,sizeXL,List.length_append];omega
end
theorem sizeXL_take (l:List Ex) (j:Nat):sizeXL (l.take j)≤sizeXL l:=by
 have:=sizeXL_app (l.take j) (l.drop j);rw[List.take_append_drop] at this;omega
def RNames (r:Ex):Prop:=∀ (A:Option Addr) (c:Nat) (v:Value) (met:List Bs) (w:World),KidsX (LtX w.heap.size) w A r→RowT w v met→met.length+sizeX r≤1000000→
 Calls Tryz.prog 20 #[valX r A c,v] w fun e w'=>∃ v',e= .returned v'∧RowT w' v' (namesX r met)∧Below w.heap.size w w'
def LoopRN (ks:List Ex) (met:List Bs) (b:Nat) (W:World) (m:Nat) (v i:Value) (wr:World):Prop:=∃ j:Nat,j≤m∧i= .int .i64 j∧Hid (RowT wr v ((varsL (ks.take j)).foldl putN met))∧Hid (Below b W wr)
theorem rnames_any (r:Ex):RNames r:=by
 induction r using Ex.ind with
 | h k n nm op ks ih=>
   intro A c v met w hk hv hs;obtain⟨R,hR⟩:∃ R,R=namesX (Ex.mk k n nm op ks) met:=⟨_,rfl⟩;rw[←hR];rw[namesX_kids] at hR;rw[sizeX] at hs;have hml:=sizeXL_len ks;simp only[valX];obtain⟨m,hm⟩:∃ m,m=ks.length:=⟨_,rfl⟩;rw[←hm] at hml ⊢;have hm9:m≤1000000:=by omega
   obtain⟨X,hX⟩:∃ X:ByteArray,X=⟨nm.toArray⟩:=⟨_,rfl⟩;obtain⟨Y,hY⟩:∃ X:ByteArray,X=⟨op.toArray⟩:=⟨_,rfl⟩;rw[←hX,←hY];have HK:=Lib.hid hk;have HI:=Lib.hid ih;have HV:=Lib.hid hv;have HM:=Lib.hid hm;have HS:=Lib.hid hs;have KP:Hid (∀ W,Below w.heap.size w W→Calls Tryz.prog 37 #[v,.string X] W fun e w'=>∃ v,e= .returned v∧RowT w' v (putN met nm)∧Below W.heap.size W w'):=Lib.hid fun W hb=>by rw[hX];exact put_any nm met v W (by omega) (hv.low hb)
   have HB0:Hid (∀ o,Below w.heap.size w (w.alloc o)):=Lib.hid (one_boxX w);have HR:=Lib.hid hR;clear hk ih hv hm hX hY hs hml hR;by_cases k1:k=1
   ·subst k1
    obtain⟨o,ho⟩:∃ o:Obj,o= .cells #[.int .i64 1,.int .i64 n,.string X,.string Y,.slice A m c] 24:=⟨_,rfl⟩;have hc4:(w.alloc o).cell? ⟨w.heap.size,4,none⟩=some (.slice A m c):=by rw[ho];simp[go_sem]
    have HC4:=Lib.hid hc4;have HOO:=Lib.hid ho;have hsz:(w.alloc o).heap.size=w.heap.size+1:=by simp
    clear ho hc4;go_enter Tryz.func20,Tryz.ntmps20;go_wp2_with (go_at_call 37;((with_reducible refine(KP.out _ (HB0.out _)).mono ?_));rintro e w1 ⟨v1,rfl,hv1,hb1⟩;have HV1:=Lib.hid hv1;have HB1:=Lib.hid hb1;clear hv1 hb1)
    go_loopw [1,5] (fun v i wr=>LoopRN ks (putN met nm) (w.heap.size+1) (w.alloc o) m v i wr) (fun _ i _=>m - (intOf i).toNat)
    case atStart=>
     refine⟨0,by omega,rfl,Lib.hid (by simpa[varsL] using HV1.out),Lib.hid ?_⟩;rw[HOO.out];exact HB1.out.mono (by simp)
    case round=>
     obtain⟨j,hj,rfl,ht,hb1⟩:=hrel;have hb:Below w.heap.size w wr:=(HB0.out o).trans (hb1.out.mono (by omega));have c4:wr.cell? ⟨w.heap.size,4,none⟩=some (.slice A m c):=(hb1.out.cell (p:=⟨w.heap.size,4,none⟩) (by show w.heap.size<w.heap.size+1;omega)).trans HC4.out;by_cases a:j<m
     ·obtain⟨r,hr⟩:=getX_of_lt HM.out a
      obtain⟨ad,B,b,rfl,hp,h9,hkr⟩:=kidX_at HK.out hb hr;have hmem:=List.mem_of_getElem? hr
      have hlen:((varsL (ks.take j)).foldl putN (putN met nm)).length+sizeX r≤1000000:=by
       have q1:=fold_len (varsL (ks.take j)) (putN met nm);have q2:=varsL_len (ks.take j);have q3:=putN_len nm met;have q4:=sizeXL_take ks (j+1);obtain⟨hkl,e⟩:=List.getElem?_eq_some_iff.1 hr;rw[List.take_succ_eq_append_getElem hkl,e,sizeXL_app,sizeXL,sizeXL] at q4;have:=HS.out;omega
      have K:∀ w2,Below wr.heap.size wr w2→Calls Tryz.prog 20 #[valX r B b,u1] w2 fun e w'=>∃ v',e= .returned v'∧RowT w' v' ((varsL (ks.take (j+1))).foldl putN (putN met nm))∧Below w2.heap.size w2 w':=fun w2 h2=>by
       rw[names_take hr];exact HI.out r hmem B b u1 _ w2 (hkr.next (hb.trans (h2.mono hb.size))) (ht.out.low h2) hlen
      clear hr hkr hmem hlen;obtain⟨k',n',nm',op',ks1⟩:=r;simp only[valX] at K;obtain⟨c0,c1,c2,c3,c4'⟩:=h9;generalize (⟨nm'.toArray⟩:ByteArray)=M1 at K c2;generalize (⟨op'.toArray⟩:ByteArray)=M2 at K c3;obtain⟨l1,hl1⟩:∃ l,l=ks1.length:=⟨_,rfl⟩;rw[←hl1] at K c4';have HKC:=Lib.hid K;clear K hl1;go_wp2_with (go_at_call 20;((with_reducible refine(HKC.out _ (Below.refl _ _)).mono ?_));rintro e w2 ⟨v2,rfl,hv2,hb2⟩;have HV2:=Lib.hid hv2;have HB2:=Lib.hid hb2;clear hv2 hb2)
      go_roundw
      case rel=>exact⟨j+1,by omega,by go_num,HV2,Lib.hid (hb1.out.trans (HB2.out.mono (by have:=hb1.out.size;omega)))⟩
      case measure=>simp[intOf];omega
     ·have hT:Hid (RowT wr u1 R):=Lib.hid (by
       have:=ht.out;rw[List.take_of_length_le (by have:=HM.out;omega)] at this;rw[HR.out,if_pos trivial];exact this)
      go_wp2;go_ret;exact⟨_,rfl,hT.out,hb⟩
   ·have bk:(k==1)=false:=by simp[k1]
    obtain⟨o,ho⟩:∃ o:Obj,o= .cells #[.int .i64 k,.int .i64 n,.string X,.string Y,.slice A m c] 24:=⟨_,rfl⟩;have hc4:(w.alloc o).cell? ⟨w.heap.size,4,none⟩=some (.slice A m c):=by rw[ho];simp[go_sem]
    have HC4:=Lib.hid hc4;have HOO:=Lib.hid ho;have hsz:(w.alloc o).heap.size=w.heap.size+1:=by simp
    clear ho hc4;go_enter Tryz.func20,Tryz.ntmps20;go_wp2
    go_loopw [1,5] (fun v i wr=>LoopRN ks met (w.heap.size+1) (w.alloc o) m v i wr) (fun _ i _=>m - (intOf i).toNat)
    case atStart=>
     refine⟨0,by omega,rfl,Lib.hid ?_,Lib.hid ?_⟩
     ·have:=HV.out.low (HB0.out o)
      rw[HOO.out] at this;simpa[varsL] using this
     ·rw[HOO.out];exact Below.refl _ _
    case round=>
     obtain⟨j,hj,rfl,ht,hb1⟩:=hrel;have hb:Below w.heap.size w wr:=(HB0.out o).trans (hb1.out.mono (by omega));have c4:wr.cell? ⟨w.heap.size,4,none⟩=some (.slice A m c):=(hb1.out.cell (p:=⟨w.heap.size,4,none⟩) (by show w.heap.size<w.heap.size+1;omega)).trans HC4.out;by_cases a:j<m
     ·obtain⟨r,hr⟩:=getX_of_lt HM.out a
      obtain⟨ad,B,b,rfl,hp,h9,hkr⟩:=kidX_at HK.out hb hr;have hmem:=List.mem_of_getElem? hr
      have hlen:((varsL (ks.take j)).foldl putN (met)).length+sizeX r≤1000000:=by
       have q1:=fold_len (varsL (ks.take j)) (met);have q2:=varsL_len (ks.take j);have q3:=putN_len nm met;have q4:=sizeXL_take ks (j+1);obtain⟨hkl,e⟩:=List.getElem?_eq_some_iff.1 hr;rw[List.take_succ_eq_append_getElem hkl,e,sizeXL_app,sizeXL,sizeXL] at q4;have:=HS.out;omega
      have K:∀ w2,Below wr.heap.size wr w2→Calls Tryz.prog 20 #[valX r B b,u1] w2 fun e w'=>∃ v',e= .returned v'∧RowT w' v' ((varsL (ks.take (j+1))).foldl putN (met))∧Below w2.heap.size w2 w':=fun w2 h2=>by
       rw[names_take hr];exact HI.out r hmem B b u1 _ w2 (hkr.next (hb.trans (h2.mono hb.size))) (ht.out.low h2) hlen
      clear hr hkr hmem hlen;obtain⟨k',n',nm',op',ks1⟩:=r;simp only[valX] at K;obtain⟨c0,c1,c2,c3,c4'⟩:=h9;generalize (⟨nm'.toArray⟩:ByteArray)=M1 at K c2;generalize (⟨op'.toArray⟩:ByteArray)=M2 at K c3;obtain⟨l1,hl1⟩:∃ l,l=ks1.length:=⟨_,rfl⟩;rw[←hl1] at K c4';have HKC:=Lib.hid K;clear K hl1;go_wp2_with (go_at_call 20;((with_reducible refine(HKC.out _ (Below.refl _ _)).mono ?_));rintro e w2 ⟨v2,rfl,hv2,hb2⟩;have HV2:=Lib.hid hv2;have HB2:=Lib.hid hb2;clear hv2 hb2)
      go_roundw
      case rel=>exact⟨j+1,by omega,by go_num,HV2,Lib.hid (hb1.out.trans (HB2.out.mono (by have:=hb1.out.size;omega)))⟩
      case measure=>simp[intOf];omega
     ·have hT:Hid (RowT wr u1 R):=Lib.hid (by
       have:=ht.out;rw[List.take_of_length_le (by have:=HM.out;omega)] at this;rw[HR.out,if_neg k1];exact this)
      go_wp2;go_ret;exact⟨_,rfl,hT.out,hb⟩
theorem small_cX (x:Ex) (A:Option Addr) (c most:Nat) (z:Int) (hz:z=most) (w:World) (hk:KidsX (LtX w.heap.size) w A x) (hm:most≤120) (v:Bool) (hv:decide (0≤cntX x most)=v):BoolX 7 #[aggX x A c,.int .i64 z] v w:=fun W hb=>by
 have:=smallX_any x A c most W (hk.next hb) hm;rw[hv,←hz,valX_eq] at this;exact this
theorem boxes_two (w:World) (x y:Ex) (A B:Option Addr) (c d:Nat):
  Box5 ((w.alloc (objX x A c)).alloc (objX y B d)) w.heap.size (.int .i64 x.kind) (.int .i64 x.n) (.string ⟨x.name.toArray⟩) (.string ⟨x.op.toArray⟩) (.slice A x.kids.length c)∧
  Box5 ((w.alloc (objX x A c)).alloc (objX y B d)) (w.heap.size+1) (.int .i64 y.kind) (.int .i64 y.n) (.string ⟨y.name.toArray⟩) (.string ⟨y.op.toArray⟩) (.slice B y.kids.length d):=by
 refine⟨(Box5.new w 24 _ _ _ _ _).low (one_boxX _ _),?_⟩;have:=Box5.new (w.alloc (objX x A c)) 24 (.int .i64 y.kind) (.int .i64 y.n) (.string ⟨y.name.toArray⟩) (.string ⟨y.op.toArray⟩) (.slice B y.kids.length d);rw[show (w.alloc (objX x A c)).heap.size=w.heap.size+1 by simp] at this;exact this
theorem xsames_full (x y:Ex) (A B:Option Addr) (c d:Nat) (w:World) (hk:KidsX (LtX w.heap.size) w A x) (hk2:KidsX (LtX w.heap.size) w B y) (hx:0≤cntX x 60) (hy:0≤cntX y 60) (hG:Given w):
  Calls Tryz.prog 5 #[valX x A c,valX y B d] w fun e w'=>e= .returned (.bool true)∧Below w.heap.size w w':=by
 obtain⟨hx1,hx2⟩:=cntX_sz x 60 hx;obtain⟨hy1,hy2⟩:=cntX_sz y 60 hy;have KA:Hid (∀ W,Below w.heap.size w W→Calls Tryz.prog 6 #[] W fun e w'=>e= .returned (.bool true)∧Below W.heap.size W w'):=Lib.hid fun W hb=>awakeX_any W (hG.below hb)
 have K8:=Lib.hid (small_cX x A c 60 60 rfl w hk (by omega) true (decide_eq_true hx));have K9:=Lib.hid (small_cX y B d 60 60 rfl w hk2 (by omega) true (decide_eq_true hy));have KS:=Lib.hid (csame_cX x y A B c d w hk hk2 (by omega) (by omega));have KD:=Lib.hid (rsame_cX x y A B c d w hk hk2 (by omega) (by omega));have KXX:=Lib.hid (csame_cX x x A A c c w hk hk (by omega) (by omega));rw[eqB_self] at KXX;obtain⟨v,hv⟩:∃ v,v=eqB x y:=⟨_,rfl⟩;rw[←hv] at KS KD;obtain⟨L,hL⟩:∃ L,L=namesX x []:=⟨_,rfl⟩
 have KN:Hid (∀ W,Below w.heap.size w W→Calls Tryz.prog 19 #[aggX x A c] W fun e w'=>∃ v,e= .returned v∧RowS w' v L∧Below W.heap.size W w'):=Lib.hid fun W hb=>by
  have:=cnames_any x A c W (hk.next hb) (by omega) (by omega);rw[valX_eq] at this;rw[hL];exact this
 have KR:Hid (∀ W,Below w.heap.size w W→Calls Tryz.prog 20 #[aggX x A c,.slice none 0 0] W fun e w'=>∃ v,e= .returned v∧RowT w' v L∧Below W.heap.size W w'):=Lib.hid fun W hb=>by
  have:=rnames_any x A c (.slice none 0 0) [] W (hk.next hb) (.inl ⟨rfl,rfl⟩) (by simp;omega);rw[valX_eq] at this;rw[hL];exact this
 have hl:L.length≤1000000:=by
  rw[hL];unfold namesX;have h1:=fold_len (varsX x) [];have h2:=varsX_len x;simp at h1;omega
 have HX0:=Lib.hid (boxes_two w x y A B c d).1;have HY0:=Lib.hid (boxes_two w x y A B c d).2;rw[valX_eq,valX_eq];clear hv hk hk2 hx hy hx1 hx2 hy1 hy2 hG hL;go_enter Tryz.func5,Tryz.ntmps5
 go_wp2_with (first
  | (go_at_call 6;go_must ((with_reducible refine(KA.out _ (two_boxesX w _ _)).mono ?_);rintro _ w1 ⟨rfl,hb1⟩;have B1:=Lib.hid (bstepX (two_boxesX w (objX x A c) (objX y B d)) hb1);have X1:=Lib.hid (HX0.out.low hb1);have Y1:=Lib.hid (HY0.out.low hb1);obtain⟨x0,x1,x2,x3,x4,_⟩:=X1.out;clear hb1))
  | (go_at_call 7;((with_reducible refine(K8.out _ B1.out).mono ?_);rintro _ w2 ⟨rfl,hb2⟩;have B2:=Lib.hid (bstepX B1.out hb2);have X2:=Lib.hid (X1.out.low hb2);have Y2:=Lib.hid (Y1.out.low hb2);obtain⟨y0,y1,y2,y3,y4,_⟩:=Y2.out;clear hb2 K8 x0 x1 x2 x3 x4))
  | (go_at_call 7;((with_reducible refine(K9.out _ B2.out).mono ?_);rintro _ w3 ⟨rfl,hb3⟩;have B3:=Lib.hid (bstepX B2.out hb3);have X3:=Lib.hid (X2.out.low hb3);have Y3:=Lib.hid (Y2.out.low hb3);clear hb3 K9 y0 y1 y2 y3 y4)))
 obtain⟨x0,x1,x2,x3,x4,_⟩:=X3.out;have B4:=Lib.hid B3.out.drew
 go_region_held3 (fun W'=>W'.cell? ⟨w.heap.size,0,none⟩=some (.int .i64 x.kind)∧W'.cell? ⟨w.heap.size,1,none⟩=some (.int .i64 x.n)∧W'.cell? ⟨w.heap.size,2,none⟩=some (.string ⟨x.name.toArray⟩)∧W'.cell? ⟨w.heap.size,3,none⟩=some (.string ⟨x.op.toArray⟩)∧W'.cell? ⟨w.heap.size,4,none⟩=some (.slice A x.kids.length c))
  (first | (with_reducible exact⟨x0,x1,x2,x3,x4⟩) | (simp only[World.cell?_drew,x0,x1,x2,x3,x4,and_self]))
  (first
   | (go_at_call 19;((with_reducible refine(KN.out _ B5.out).mono ?_);rintro e w6 ⟨v1,rfl,hr1,hb1⟩;have RA2:=Lib.hid hr1;have RB2:=Lib.hid (RB.out.low hb1);have B6:=Lib.hid (bstepX B5.out hb1);have X6:=Lib.hid (X5.out.low hb1);have Y6:=Lib.hid (Y5.out.low hb1);clear hr1 hb1 x0 x1 x2 x3 x4;obtain⟨x0,x1,x2,x3,x4,_⟩:=X6.out))
   | (go_at_call 19;((with_reducible refine(KN.out _ B4.out).mono ?_);rintro e w5 ⟨v1,rfl,hr1,hb1⟩;have RA:=Lib.hid hr1;have B5:=Lib.hid (bstepX B4.out hb1);have X5:=Lib.hid ((X3.out.low (Below.refl _ _).drew).low hb1);have Y5:=Lib.hid ((Y3.out.low (Below.refl _ _).drew).low hb1);clear hr1 hb1 x0 x1 x2 x3 x4;obtain⟨x0,x1,x2,x3,x4,_⟩:=X5.out))
   | (go_at_call 20;((with_reducible refine(KR.out _ B5.out).mono ?_);rintro e w6 ⟨v2,rfl,hr2,hb2⟩;have RB2:=Lib.hid hr2;have RA2:=Lib.hid (RA.out.low hb2);have B6:=Lib.hid (bstepX B5.out hb2);have X6:=Lib.hid (X5.out.low hb2);have Y6:=Lib.hid (Y5.out.low hb2);clear hr2 hb2 x0 x1 x2 x3 x4;obtain⟨x0,x1,x2,x3,x4,_⟩:=X6.out))
   | (go_at_call 20;((with_reducible refine(KR.out _ B4.out).mono ?_);rintro e w5 ⟨v2,rfl,hr2,hb2⟩;have RB:=Lib.hid hr2;have B5:=Lib.hid (bstepX B4.out hb2);have X5:=Lib.hid ((X3.out.low (Below.refl _ _).drew).low hb2);have Y5:=Lib.hid ((Y3.out.low (Below.refl _ _).drew).low hb2);clear hr2 hb2 x0 x1 x2 x3 x4;obtain⟨x0,x1,x2,x3,x4,_⟩:=X5.out)))
 all_goals (
  clear x0 x1 x2 x3 x4;obtain⟨A1,c1,e1,hc1⟩:=RA2.out;obtain⟨A2,c2,e2,hc2⟩:=RB2.out.rowS;obtain⟨n,hn⟩:∃ n,n=L.length:=⟨_,rfl⟩;rw[←hn] at e1 e2 hl;have HC1:=Lib.hid hc1;have HC2:=Lib.hid hc2;have HN:=Lib.hid hn;clear RA2 RB2 hc1 hc2 hn KN KR;subst e1;subst e2;go_wp2
  go_loopw [29] (fun i wr=>∃ j:Nat,j≤n∧i= .int .i64 j∧Below w6.heap.size w6 wr) (fun i _=>n - (intOf i).toNat)
  case atStart=>exact⟨0,by omega,rfl,Below.refl _ _⟩
  case round=>
   obtain⟨j,hj,rfl,hb⟩:=hrel;have HB:=Lib.hid hb;by_cases a:j<n
   ·obtain⟨z,hz⟩:∃ z,L[j]?=some z:=⟨_,List.getElem?_eq_getElem (by rw[←HN.out];exact a)⟩
    have hne0:¬ L=[]:=fun e=>by rw[e] at hz;simp at hz
    obtain⟨b1,rfl,hb1,hcc1⟩:=HC1.out.resolve_left hne0;obtain⟨b2,rfl,hb2,hcc2⟩:=HC2.out.resolve_left hne0;have d1:=(hb.cell (p:=⟨b1,j,none⟩) hb1).trans (hcc1 j z hz);have d2:=(hb.cell (p:=⟨b2,j,none⟩) hb2).trans (hcc2 j z hz);obtain⟨Z,hZ⟩:∃ Z:ByteArray,Z=⟨z.toArray⟩:=⟨_,rfl⟩;unfold strV at d1 d2;rw[←hZ] at d1 d2;have p1:=bw_cell d1;have p2:=bw_cell d2;clear hcc1 hcc2 hz hne0 hZ hb;go_wp2;have hne:=bw_some wr;refine wp_region_below (by kernel_rfl) (by kernel_rfl) ?_
    repeat (go_big_quiet_step (fail))
    refine wpQuiet_nil ?_;intro w7 hw7;obtain⟨m7,rfl⟩:=hw7;obtain⟨w8,hw8⟩:∃ x,x=m7.at:=⟨_,rfl⟩;have HB3:Hid (Below wr.heap.size wr w8):=Lib.hid (by rw[hw8];exact m7.2);rw[←hw8];clear hw8;go_wp2
    go_roundw
    case rel=>exact⟨j+1,by omega,by go_num,bstepX HB.out HB3.out⟩
    case measure=>simp[intOf];omega
   ·have B7:=Lib.hid (bstepX B6.out hb)
    obtain⟨x0,x1,x2,x3,x4,_⟩:=X6.out.low hb;obtain⟨y0,y1,y2,y3,y4,_⟩:=Y6.out.low hb;have p0:=bw_cell x0;have p1:=bw_cell x1;have p2:=bw_cell x2;have p3:=bw_cell x3;have p4:=bw_cell x4;have q0:=bw_cell y0;have q1:=bw_cell y1;have q2:=bw_cell y2;have q3:=bw_cell y3;have q4:=bw_cell y4;clear hb;go_wp2;have hne:=bw_some wr;refine wp_region_below (by kernel_rfl) (by kernel_rfl) ?_
    repeat (go_big_quiet_step (first | (go_at_call 21;with_reducible exact KS.out.bw B7.out _) | (go_at_call 21;with_reducible exact KXX.out.bw B7.out _) | (go_at_call 17;with_reducible exact KD.out.bw B7.out _)))
    refine wpQuiet_nil ?_;intro w9 hw9;obtain⟨m9,rfl⟩:=hw9;have HB4:=Lib.hid (bstepX B7.out m9.2);go_wp2;go_ret;exact⟨rfl,HB4.out⟩)
theorem xsames_x (x y:Ex) (A B:Option Addr) (c d:Nat) (w:World) (hk:KidsX (LtX w.heap.size) w A x) (hx:¬ 0≤cntX x 60) (hG:Given w):
  Calls Tryz.prog 5 #[valX x A c,valX y B d] w fun e w'=>e= .returned (.bool true)∧Below w.heap.size w w':=by
 have KA:Hid (∀ W,Below w.heap.size w W→Calls Tryz.prog 6 #[] W fun e w'=>e= .returned (.bool true)∧Below W.heap.size W w'):=Lib.hid fun W hb=>awakeX_any W (hG.below hb)
 have K8:=Lib.hid (small_cX x A c 60 60 rfl w hk (by omega) false (decide_eq_false hx));have HX0:=Lib.hid (boxes_two w x y A B c d).1;rw[valX_eq,valX_eq];clear hk hx hG;go_enter Tryz.func5,Tryz.ntmps5
 go_wp2_with (first
  | (go_at_call 6;go_must ((with_reducible refine(KA.out _ (two_boxesX w _ _)).mono ?_);rintro _ w1 ⟨rfl,hb1⟩;have B1:=Lib.hid (bstepX (two_boxesX w (objX x A c) (objX y B d)) hb1);have X1:=Lib.hid (HX0.out.low hb1);obtain⟨x0,x1,x2,x3,x4,_⟩:=X1.out;clear hb1))
  | (go_at_call 7;((with_reducible refine(K8.out _ B1.out).mono ?_);rintro _ w2 ⟨rfl,hb2⟩;have B2:=Lib.hid (bstepX B1.out hb2);clear hb2)))
 go_ret;exact⟨rfl,B2.out⟩
theorem xsames_y (x y:Ex) (A B:Option Addr) (c d:Nat) (w:World) (hk:KidsX (LtX w.heap.size) w A x) (hk2:KidsX (LtX w.heap.size) w B y) (hx:0≤cntX x 60) (hy:¬ 0≤cntX y 60) (hG:Given w):
  Calls Tryz.prog 5 #[valX x A c,valX y B d] w fun e w'=>e= .returned (.bool true)∧Below w.heap.size w w':=by
 have KA:Hid (∀ W,Below w.heap.size w W→Calls Tryz.prog 6 #[] W fun e w'=>e= .returned (.bool true)∧Below W.heap.size W w'):=Lib.hid fun W hb=>awakeX_any W (hG.below hb)
 have K8:=Lib.hid (small_cX x A c 60 60 rfl w hk (by omega) true (decide_eq_true hx));have K9:=Lib.hid (small_cX y B d 60 60 rfl w hk2 (by omega) false (decide_eq_false hy));have HX0:=Lib.hid (boxes_two w x y A B c d).1;have HY0:=Lib.hid (boxes_two w x y A B c d).2;rw[valX_eq,valX_eq];clear hk hk2 hx hy hG;go_enter Tryz.func5,Tryz.ntmps5
 go_wp2_with (first
  | (go_at_call 6;go_must ((with_reducible refine(KA.out _ (two_boxesX w _ _)).mono ?_);rintro _ w1 ⟨rfl,hb1⟩;have B1:=Lib.hid (bstepX (two_boxesX w (objX x A c) (objX y B d)) hb1);have X1:=Lib.hid (HX0.out.low hb1);have Y1:=Lib.hid (HY0.out.low hb1);obtain⟨x0,x1,x2,x3,x4,_⟩:=X1.out;clear hb1))
  | (go_at_call 7;((with_reducible refine(K8.out _ B1.out).mono ?_);rintro _ w2 ⟨rfl,hb2⟩;have B2:=Lib.hid (bstepX B1.out hb2);have Y2:=Lib.hid (Y1.out.low hb2);obtain⟨y0,y1,y2,y3,y4,_⟩:=Y2.out;clear hb2 K8 x0 x1 x2 x3 x4))
  | (go_at_call 7;((with_reducible refine(K9.out _ B2.out).mono ?_);rintro _ w3 ⟨rfl,hb3⟩;have B3:=Lib.hid (bstepX B2.out hb3);clear hb3 K9)))
 go_ret;exact⟨rfl,B3.out⟩
theorem walk_xsames (x y:Ex) (A B:Option Addr) (c d:Nat) (w:World) (hk:KidsX (LtX w.heap.size) w A x) (hk2:KidsX (LtX w.heap.size) w B y) (hG:Given w):
  Calls Tryz.prog 5 #[valX x A c,valX y B d] w fun e w'=>e= .returned (.bool true)∧Below w.heap.size w w':=by
 by_cases hx:0≤cntX x 60
 ·by_cases hy:0≤cntX y 60
  ·exact xsames_full x y A B c d w hk hk2 hx hy hG
  ·exact xsames_y x y A B c d w hk hk2 hx hy hG
 ·exact xsames_x x y A B c d w hk hx hG
theorem nil_own {w w':World} {B B':Nat} {e:TypeId} {s n:Nat} {xs:List Value} (h:w.ownsRow B e s (.slice none 0 0) n xs):w'.ownsRow B' e s (.slice none 0 0) n xs:=by
 refine⟨h.1,.inl ⟨rfl,?_⟩⟩
 rcases h.2 with ⟨_,h⟩ | ⟨g,cap,cur,h,_⟩
 ·exact h
 ·cases h
theorem tv_none {T:List Tok} {x:Tv} (h:x∈tv T):x.2= .slice none 0 0:=by
 obtain⟨t,_,rfl⟩:=List.mem_map.1 h
 rfl
theorem TkR.cat {B B2:Nat} {w w':World} {v v' v2:Value} {T U:List Tok} (h:TkR B w v T) (h2:TkR B2 w v2 U) (ho:w'.ownsRow B 38 5 v' ((tv T).length+(tv U).length) (cellsT (tv T)++cellsT (tv U))) (hg:w.grownBy w' v.ownBlock):TkR B w' v' (T++U):=by
 refine⟨?_,?_,Below.refl _ _,Nat.le_trans h.size hg.size⟩
 ·rw[tv_app,List.length_append,cellsT_append];exact ho
 ·intro x hx
  rw[tv_app] at hx
  rcases List.mem_append.1 hx with hx | hx
  ·have h1:=h.parts x hx
   rw[tv_none hx] at h1 ⊢;exact nil_own h1
  ·have h1:=h2.parts x hx
   rw[tv_none hx] at h1 ⊢;exact nil_own h1
abbrev five (t:Tok):List Value:=[.int .i64 t.kind,.string ⟨t.word.toArray⟩,.int .i64 t.n,.slice none 0 0,.int .i64 t.pl]
structure SK (B:Nat) (w0 W0:World) (v:Value) (n:Nat) (T:List Tok) (W:World):Prop where
 tk:TkR B W v T
 hn:T.length=n
 low:Below B w0 W
 kept:KeptK W0 W
theorem SK.row {B:Nat} {w0 W0 W:World} {v:Value} {n:Nat} {T:List Tok} (h:SK B w0 W0 v n T W):W.ownsRow B 38 5 v n (cellsT (tv T)):=by
 have:=h.tk.row;rw[tv_len,h.hn] at this;exact this
theorem SK.beyond {B:Nat} {w0 W0 W W':World} {v:Value} {n:Nat} {T:List Tok} (h:SK B w0 W0 v n T W) (hb:Below W.heap.size W W'):SK B w0 W0 v n T W':=⟨h.tk.beyond hb,h.hn,h.low.trans (hb.mono h.tk.size),h.kept.trans (KeptK.below hb)⟩
theorem SK.one {B:Nat} {w0 W0 W W':World} {v v':Value} {n k:Nat} {T:List Tok} {xs:List Value} (h:SK B w0 W0 v n T W) (t:Tok) (ht:t.parts=[]) (ho:W'.ownsRow B 38 5 v' (n+1) (cellsT (tv T)++xs)) (hg:W.grownBy W' v.ownBlock) (hx:xs=five t) (hk:n+1=k):SK B w0 W0 v' k (T++[t]) W':=by
 subst hx;subst hk;refine⟨h.tk.one ht (by rw[tv_len,h.hn];exact ho) hg,by rw[List.length_append,h.hn];rfl,h.low.grown hg h.tk.size (fun k hk=>(h.row.lt k hk).1),h.kept.trans (KeptK.grown h.row hg)⟩
theorem SK.cat {B B2:Nat} {w0 W0 W W':World} {v v2:Value} {g cap n m k:Nat} {T U:List Tok} (h:SK B w0 W0 v n T W) (h2:TkR B2 W v2 U) (hm:U.length=m) (ho:W'.ownsRow B 38 5 (.slice (some ⟨g,0,none⟩) (n+m) cap) (n+m) (cellsT (tv T)++cellsT (tv U))) (hg:W.grownBy W' v.ownBlock) (hk:n+m=k):SK B w0 W0 (.slice (some ⟨g,0,none⟩) k cap) k (T++U) W':=by
 subst hk;refine⟨h.tk.cat h2 (by rw[tv_len,tv_len,h.hn,hm];exact ho) hg,by rw[List.length_append,h.hn,hm],h.low.grown hg h.tk.size (fun k hk=>(h.row.lt k hk).1),h.kept.trans (KeptK.grown h.row hg)⟩
theorem sk_start (w:World) (o:Obj):SK w.heap.size w (w.alloc o) (.slice none 0 0) 0 [] (w.alloc o):=⟨TkR.nil _ _ (one_boxX w o).size,rfl,one_boxX w o,KeptK.refl _⟩
def PostTR (w:World) (T:List Tok) (e:Ending) (w':World):Prop:=∃ g cap,e= .returned (.slice (some ⟨g,0,none⟩) T.length cap)∧TkR w.heap.size w' (.slice (some ⟨g,0,none⟩) T.length cap) T∧Below w.heap.size w w'
theorem SK.post {w0 W0 W:World} {g cap n:Nat} {T:List Tok} (h:SK w0.heap.size w0 W0 (.slice (some ⟨g,0,none⟩) n cap) n T W):PostTR w0 T (.returned (.slice (some ⟨g,0,none⟩) n cap)) W:=by
 obtain⟨h1,rfl,h3,_⟩:=h;exact⟨g,cap,rfl,h1,h3⟩
def RTok (e:Ex):Prop:=∀ (m:Nat) (A:Option Addr) (c:Nat) (w:World),m≤7→KidsX (LtX w.heap.size) w A e→sizeX e≤300000→
 Calls Tryz.prog 12 #[valX e A c,.int .i64 m] w (PostTR w (tokX e m))
theorem five_ok (t:Tok):∀ u∈five t,u.oneCell'=true:=five_one _ _ _ _ _ _ _
theorem rtok_num (z:Int):RTok (exNum z):=by
 intro m A c w hm hk hs;have hlt:decide ((8:Int)<(m:Int))=false:=by simp;omega
 have HO:=Lib.hid (sk_start w (.cells #[.int .i64 0,.int .i64 z,.string ⟨#[]⟩,.string ⟨#[]⟩,.slice A 0 c] 24));have KB:Hid (∀ W,Calls Tryz.prog 28 #[.agg #[.int .i64 0,.int .i64 z,.string ⟨#[]⟩,.string ⟨#[]⟩,.slice A 0 c]] W fun e w'=>e= .returned (.int .i64 8)∧Below W.heap.size W w'):=Lib.hid fun W=>bindsX_any (exNum z) A c W
 have HT:Hid (tokX (exNum z) m=[]++[tNum z]):=Lib.hid (by unfold tokX shutT;rw[if_neg (by simp[exNum,bindsX];omega),tok_num];rfl);rw[HT.out];obtain⟨i0,hi0,hz0,hz1,hz2⟩:=info_parts infoT;unfold exNum;simp only[valX,List.length_nil];clear hk hs hm;go_enter Tryz.func12,Tryz.ntmps12
 go_wp2_with (first
  | (go_at_call 28;go_must ((with_reducible refine(KB.out _).mono ?_);rintro e w1 ⟨rfl,hb1⟩;have H1:=Lib.hid (HO.out.beyond hb1);obtain⟨d0,d1,d2,d3,d4,_⟩:=H1.out.kept.box (by decide);clear hb1))
  | (at_builtin;refine wpList_append_lies _ rfl (.tmp 19) (.tmp 23) 27 rfl w.heap.size 38 i0 (.agg #[.int .i64 0,.string ⟨#[]⟩,.int .i64 0,.slice none 0 0,.int .i64 0]) 5 64 Tryz.underlying27 hi0 hz0 hz1 hz2 rfl (by decide) _ (0) (cellsT (tv ([]))) rfl (H1.out.beyond (one_boxX _ _)).row ⟨w1.heap.size,0,none⟩ 1 1 [.int .i64 2,.string ⟨#[]⟩,.int .i64 z,.slice none 0 0,.int .i64 0] rfl rfl (fun j u hu=>new_cells w1 38 #[.int .i64 2,.string ⟨#[]⟩,.int .i64 z,.slice none 0 0,.int .i64 0] j u hu) (five_ok (tNum z)) (by decide) (by first | decide | (unfold maxLen;omega)) (by omega) (H1.out.beyond (one_boxX _ _)).tk.size _ rfl ?_;intro g2 cap2 w2 ho hg hat hlt9;have H2:=Lib.hid ((H1.out.beyond (one_boxX _ _)).one (tNum z) rfl ho hg rfl rfl);clear ho hg hat hlt9;clear d0 d1 d2 d3 d4;obtain⟨d0,d1,d2,d3,d4,_⟩:=H2.out.kept.box (by decide)))
 go_ret;exact H2.out.post
theorem rtok_var (nm:Bs):RTok (exVar nm):=by
 intro m A c w hm hk hs;have hlt:decide ((8:Int)<(m:Int))=false:=by simp;omega
 have HT:Hid (tokX (exVar nm) m=[]++[tVar nm]):=Lib.hid (by unfold tokX shutT;rw[if_neg (by simp[exVar,bindsX];omega),tok_var];rfl);rw[HT.out];obtain⟨X,hX⟩:∃ X:ByteArray,X=⟨nm.toArray⟩:=⟨_,rfl⟩;have HO:=Lib.hid (sk_start w (.cells #[.int .i64 1,.int .i64 0,.string X,.string ⟨#[]⟩,.slice A 0 c] 24));have KB:Hid (∀ W,Calls Tryz.prog 28 #[.agg #[.int .i64 1,.int .i64 0,.string X,.string ⟨#[]⟩,.slice A 0 c]] W fun e w'=>e= .returned (.int .i64 8)∧Below W.heap.size W w'):=Lib.hid fun W=>by rw[hX];exact bindsX_any (exVar nm) A c W
 obtain⟨i0,hi0,hz0,hz1,hz2⟩:=info_parts infoT;unfold exVar;simp only[valX,List.length_nil];rw[←hX];obtain⟨t,ht⟩:∃ t,t=tVar nm:=⟨_,rfl⟩;have HF:Hid (five t=[.int .i64 6,.string X,.int .i64 0,.slice none 0 0,.int .i64 0]):=Lib.hid (by rw[ht,hX];rfl);have HP:Hid (t.parts=[]):=Lib.hid (by rw[ht];rfl);rw[←ht];clear hk hs hm hX ht;go_enter Tryz.func12,Tryz.ntmps12
 go_wp2_with (first
  | (go_at_call 28;go_must ((with_reducible refine(KB.out _).mono ?_);rintro e w1 ⟨rfl,hb1⟩;have H1:=Lib.hid (HO.out.beyond hb1);obtain⟨d0,d1,d2,d3,d4,_⟩:=H1.out.kept.box (by decide);clear hb1))
  | (at_builtin;refine wpList_append_lies _ rfl (.tmp 28) (.tmp 32) 27 rfl w.heap.size 38 i0 (.agg #[.int .i64 0,.string ⟨#[]⟩,.int .i64 0,.slice none 0 0,.int .i64 0]) 5 64 Tryz.underlying27 hi0 hz0 hz1 hz2 rfl (by decide) _ (0) (cellsT (tv ([]))) rfl (H1.out.beyond (one_boxX _ _)).row ⟨w1.heap.size,0,none⟩ 1 1 [.int .i64 6,.string X,.int .i64 0,.slice none 0 0,.int .i64 0] rfl rfl (fun j u hu=>new_cells w1 38 #[.int .i64 6,.string X,.int .i64 0,.slice none 0 0,.int .i64 0] j u hu) (by rw[←HF.out];exact five_ok t) (by decide) (by first | decide | (unfold maxLen;omega)) (by omega) (H1.out.beyond (one_boxX _ _)).tk.size _ rfl ?_;intro g2 cap2 w2 ho hg hat hlt9;have H2:=Lib.hid ((H1.out.beyond (one_boxX _ _)).one t HP.out ho hg HF.out.symm rfl);clear ho hg hat hlt9;clear d0 d1 d2 d3 d4;obtain⟨d0,d1,d2,d3,d4,_⟩:=H2.out.kept.box (by decide)))
 go_ret;exact H2.out.post
theorem cellsT_okk (T:List Tok):∀ u∈cellsT (tv T),u.oneCell'=true:=by
 intro u hu;obtain⟨x,hx,hu⟩:=List.mem_flatMap.1 hu;rw[tv_none hx] at hu;exact five_ok x.1 u hu
theorem shutT_pos {b m:Nat} {T:List Tok} (h:0<T.length):0<(shutT b m T).length:=by
 unfold shutT;split <;> first | exact h | simp
theorem rtok_neg (x:Ex) (hx:RTok x) (hp:0<(tokP x).length):RTok (exNeg x):=by
 intro m A c w hm hk hs;have hlt:decide ((7:Int)<(m:Int))=false:=by simp;omega
 have hsz:sizeX (exNeg x)=1+sizeX x:=(size_neg x).1;have hul:=tokX_len x 7;obtain⟨U,hU⟩:∃ U,U=tokX x 7:=⟨_,rfl⟩;have HT:Hid (tokX (exNeg x) m=[tSign [45]]++U):=Lib.hid (by unfold tokX shutT;rw[if_neg (by simp[exNeg,bindsX];omega),tok_neg,hU];rfl);rw[HT.out];have hpos:0<U.length:=by rw[hU];exact shutT_pos hp
 rw[exNeg,KidsX] at hk;obtain⟨ad,rfl,hP,hkl⟩:=hk.resolve_left (by simp);rw[KidsXL] at hkl;obtain⟨⟨A1,c1,h5,hkx⟩,_⟩:=hkl;have e0:ad.add (0 * 5)=ad:=by simp[Addr.add]
 rw[e0] at h5
 have HP5:Hid (∀ W',Below w.heap.size w W'→W'.cell? ad=some (.int .i64 x.kind)∧W'.cell? ⟨ad.block,ad.off+1,none⟩=some (.int .i64 x.n)∧W'.cell? ⟨ad.block,ad.off+2,none⟩=some (.string ⟨x.name.toArray⟩)∧W'.cell? ⟨ad.block,ad.off+3,none⟩=some (.string ⟨x.op.toArray⟩)∧W'.cell? ⟨ad.block,ad.off+4,none⟩=some (.slice A1 x.kids.length c1)):=Lib.hid fun W' hb=>by
  obtain⟨k',n',nm',op',ks'⟩:=x;exact h5.keep (fun p hp=>hb.cell (by rw[hp];exact hP))
 have HK:Hid (∀ W,Below w.heap.size w W→Calls Tryz.prog 12 #[.agg #[.int .i64 x.kind,.int .i64 x.n,.string ⟨x.name.toArray⟩,.string ⟨x.op.toArray⟩,.slice A1 x.kids.length c1],.int .i64 7] W (PostTR W U)):=Lib.hid fun W hb=>by
  have:=hx 7 A1 c1 W (by omega) (hkx.next hb) (by omega);rw[valX_eq] at this;rw[hU];exact this
 obtain⟨ln,hln⟩:∃ ln,ln=U.length:=⟨_,rfl⟩;have HNU:Hid (U.length=ln):=Lib.hid hln.symm;have HZU:Hid (0<ln):=Lib.hid (by rw[hln];exact hpos);have HLU:Hid ((cellsT (tv U)).length=ln * 5):=Lib.hid (by rw[cellsT_length,tv_len,hln]);have hln9:ln≤900000:=by rw[hln,hU];omega
 unfold PostTR at HK;rw[←hln] at HK;have HO:=Lib.hid (sk_start w (.cells #[.int .i64 2,.int .i64 0,.string ⟨#[]⟩,.string ⟨#[]⟩,.slice (some ad) 1 c] 24));have KB:Hid (∀ W,Calls Tryz.prog 28 #[.agg #[.int .i64 2,.int .i64 0,.string ⟨#[]⟩,.string ⟨#[]⟩,.slice (some ad) 1 c]] W fun e w'=>e= .returned (.int .i64 7)∧Below W.heap.size W w'):=Lib.hid fun W=>bindsX_any (exNeg x) (some ad) c W
 obtain⟨i0,hi0,hz0,hz1,hz2⟩:=info_parts infoT;unfold exNeg;simp only[valX,List.length_singleton];clear hk hs hm hsz hul hU hpos hP h5 hkx e0 hln hx hp;go_enter Tryz.func12,Tryz.ntmps12
 go_wp2_with (first
  | (go_at_call 28;go_must ((with_reducible refine(KB.out _).mono ?_);rintro e w1 ⟨rfl,hb1⟩;have H1:=Lib.hid (HO.out.beyond hb1);obtain⟨d0,d1,d2,d3,d4,_⟩:=H1.out.kept.box (by decide);have H1t:=Lib.hid (H1.out.beyond (one_boxX w1 (.cells #[.string ⟨#[45]⟩,.string ⟨#[33]⟩] 9)));obtain⟨f0,f1,f2,f3,f4,_⟩:=H1t.out.kept.box (by decide);clear hb1))
  | (at_builtin;refine wpList_append_lies _ rfl (.tmp 42) (.tmp 50) 27 rfl w.heap.size 38 i0 (.agg #[.int .i64 0,.string ⟨#[]⟩,.int .i64 0,.slice none 0 0,.int .i64 0]) 5 64 Tryz.underlying27 hi0 hz0 hz1 hz2 rfl (by decide) _ (0) (cellsT (tv ([]))) rfl (H1t.out.beyond (one_boxX _ _)).row ⟨w1.heap.size+1,0,none⟩ 1 1 [.int .i64 4,.string ⟨#[45]⟩,.int .i64 0,.slice none 0 0,.int .i64 0] rfl rfl (fun j u hu=>new_cellsT w1 _ 38 #[.int .i64 4,.string ⟨#[45]⟩,.int .i64 0,.slice none 0 0,.int .i64 0] j u hu) (five_ok (tSign [45])) (by decide) (by first | decide | (unfold maxLen;omega)) (by omega) (H1t.out.beyond (one_boxX _ _)).tk.size _ rfl ?_;intro g2 cap2 w2 ho hg hat hlt9;have H2:=Lib.hid ((H1t.out.beyond (one_boxX _ _)).one (tSign [45]) rfl ho hg rfl rfl);clear ho hg hat hlt9 f0 f1 f2 f3 f4;obtain⟨l0,l1,l2,l3,l4⟩:=HP5.out _ H2.out.low;clear d0 d1 d2 d3 d4;obtain⟨d0,d1,d2,d3,d4,_⟩:=H2.out.kept.box (by decide))
  | (go_at_call 12;go_must ((with_reducible refine(HK.out _ H2.out.low).mono ?_);rintro e w3 ⟨g3,cap3,rfl,ht3,hb3⟩;have HT3:=Lib.hid ht3;have H3:=Lib.hid (H2.out.beyond hb3);clear ht3 hb3 d0 d1 d2 d3 d4;obtain⟨d0,d1,d2,d3,d4,_⟩:=H3.out.kept.box (by decide)))
  | (at_builtin;refine wpList_append_lies _ rfl (.tmp 52) (.tmp 57) 27 rfl w.heap.size 38 i0 (.agg #[.int .i64 0,.string ⟨#[]⟩,.int .i64 0,.slice none 0 0,.int .i64 0]) 5 64 Tryz.underlying27 hi0 hz0 hz1 hz2 rfl (by decide) _ (1) (cellsT (tv ([]++[tSign [45]]))) rfl H3.out.row ⟨g3,0,none⟩ ln cap3 (cellsT (tv U)) rfl HLU.out (HT3.out.row.cells rfl) (cellsT_okk U) HZU.out (by first | decide | (unfold maxLen;omega)) (by omega) H3.out.tk.size _ rfl ?_;intro g4 cap4 w4 ho hg hat hlt9;have H4:=Lib.hid (H3.out.cat HT3.out HNU.out ho hg (k:=1+ln) rfl);clear ho hg hat hlt9;clear d0 d1 d2 d3 d4;obtain⟨d0,d1,d2,d3,d4,_⟩:=H4.out.kept.box (by decide)))
 go_ret;exact H4.out.post
theorem rtok_not (x:Ex) (hx:RTok x) (hp:0<(tokP x).length):RTok (exNot x):=by
 intro m A c w hm hk hs;have hlt:decide ((7:Int)<(m:Int))=false:=by simp;omega
 have hsz:sizeX (exNot x)=1+sizeX x:=(size_not x).1;have hul:=tokX_len x 7;obtain⟨U,hU⟩:∃ U,U=tokX x 7:=⟨_,rfl⟩;have HT:Hid (tokX (exNot x) m=[tSign [33]]++U):=Lib.hid (by unfold tokX shutT;rw[if_neg (by simp[exNot,bindsX];omega),tok_not,hU];rfl);rw[HT.out];have hpos:0<U.length:=by rw[hU];exact shutT_pos hp
 rw[exNot,KidsX] at hk;obtain⟨ad,rfl,hP,hkl⟩:=hk.resolve_left (by simp);rw[KidsXL] at hkl;obtain⟨⟨A1,c1,h5,hkx⟩,_⟩:=hkl;have e0:ad.add (0 * 5)=ad:=by simp[Addr.add]
 rw[e0] at h5
 have HP5:Hid (∀ W',Below w.heap.size w W'→W'.cell? ad=some (.int .i64 x.kind)∧W'.cell? ⟨ad.block,ad.off+1,none⟩=some (.int .i64 x.n)∧W'.cell? ⟨ad.block,ad.off+2,none⟩=some (.string ⟨x.name.toArray⟩)∧W'.cell? ⟨ad.block,ad.off+3,none⟩=some (.string ⟨x.op.toArray⟩)∧W'.cell? ⟨ad.block,ad.off+4,none⟩=some (.slice A1 x.kids.length c1)):=Lib.hid fun W' hb=>by
  obtain⟨k',n',nm',op',ks'⟩:=x;exact h5.keep (fun p hp=>hb.cell (by rw[hp];exact hP))
 have HK:Hid (∀ W,Below w.heap.size w W→Calls Tryz.prog 12 #[.agg #[.int .i64 x.kind,.int .i64 x.n,.string ⟨x.name.toArray⟩,.string ⟨x.op.toArray⟩,.slice A1 x.kids.length c1],.int .i64 7] W (PostTR W U)):=Lib.hid fun W hb=>by
  have:=hx 7 A1 c1 W (by omega) (hkx.next hb) (by omega);rw[valX_eq] at this;rw[hU];exact this
 obtain⟨ln,hln⟩:∃ ln,ln=U.length:=⟨_,rfl⟩;have HNU:Hid (U.length=ln):=Lib.hid hln.symm;have HZU:Hid (0<ln):=Lib.hid (by rw[hln];exact hpos);have HLU:Hid ((cellsT (tv U)).length=ln * 5):=Lib.hid (by rw[cellsT_length,tv_len,hln]);have hln9:ln≤900000:=by rw[hln,hU];omega
 unfold PostTR at HK;rw[←hln] at HK;have HO:=Lib.hid (sk_start w (.cells #[.int .i64 3,.int .i64 0,.string ⟨#[]⟩,.string ⟨#[]⟩,.slice (some ad) 1 c] 24));have KB:Hid (∀ W,Calls Tryz.prog 28 #[.agg #[.int .i64 3,.int .i64 0,.string ⟨#[]⟩,.string ⟨#[]⟩,.slice (some ad) 1 c]] W fun e w'=>e= .returned (.int .i64 7)∧Below W.heap.size W w'):=Lib.hid fun W=>bindsX_any (exNot x) (some ad) c W
 obtain⟨i0,hi0,hz0,hz1,hz2⟩:=info_parts infoT;unfold exNot;simp only[valX,List.length_singleton];clear hk hs hm hsz hul hU hpos hP h5 hkx e0 hln hx hp;go_enter Tryz.func12,Tryz.ntmps12
 go_wp2_with (first
  | (go_at_call 28;go_must ((with_reducible refine(KB.out _).mono ?_);rintro e w1 ⟨rfl,hb1⟩;have H1:=Lib.hid (HO.out.beyond hb1);obtain⟨d0,d1,d2,d3,d4,_⟩:=H1.out.kept.box (by decide);have H1t:=Lib.hid (H1.out.beyond (one_boxX w1 (.cells #[.string ⟨#[45]⟩,.string ⟨#[33]⟩] 9)));obtain⟨f0,f1,f2,f3,f4,_⟩:=H1t.out.kept.box (by decide);clear hb1))
  | (at_builtin;refine wpList_append_lies _ rfl (.tmp 42) (.tmp 50) 27 rfl w.heap.size 38 i0 (.agg #[.int .i64 0,.string ⟨#[]⟩,.int .i64 0,.slice none 0 0,.int .i64 0]) 5 64 Tryz.underlying27 hi0 hz0 hz1 hz2 rfl (by decide) _ (0) (cellsT (tv ([]))) rfl (H1t.out.beyond (one_boxX _ _)).row ⟨w1.heap.size+1,0,none⟩ 1 1 [.int .i64 4,.string ⟨#[33]⟩,.int .i64 0,.slice none 0 0,.int .i64 0] rfl rfl (fun j u hu=>new_cellsT w1 _ 38 #[.int .i64 4,.string ⟨#[33]⟩,.int .i64 0,.slice none 0 0,.int .i64 0] j u hu) (five_ok (tSign [33])) (by decide) (by first | decide | (unfold maxLen;omega)) (by omega) (H1t.out.beyond (one_boxX _ _)).tk.size _ rfl ?_;intro g2 cap2 w2 ho hg hat hlt9;have H2:=Lib.hid ((H1t.out.beyond (one_boxX _ _)).one (tSign [33]) rfl ho hg rfl rfl);clear ho hg hat hlt9 f0 f1 f2 f3 f4;obtain⟨l0,l1,l2,l3,l4⟩:=HP5.out _ H2.out.low;clear d0 d1 d2 d3 d4;obtain⟨d0,d1,d2,d3,d4,_⟩:=H2.out.kept.box (by decide))
  | (go_at_call 12;go_must ((with_reducible refine(HK.out _ H2.out.low).mono ?_);rintro e w3 ⟨g3,cap3,rfl,ht3,hb3⟩;have HT3:=Lib.hid ht3;have H3:=Lib.hid (H2.out.beyond hb3);clear ht3 hb3 d0 d1 d2 d3 d4;obtain⟨d0,d1,d2,d3,d4,_⟩:=H3.out.kept.box (by decide)))
  | (at_builtin;refine wpList_append_lies _ rfl (.tmp 52) (.tmp 57) 27 rfl w.heap.size 38 i0 (.agg #[.int .i64 0,.string ⟨#[]⟩,.int .i64 0,.slice none 0 0,.int .i64 0]) 5 64 Tryz.underlying27 hi0 hz0 hz1 hz2 rfl (by decide) _ (1) (cellsT (tv ([]++[tSign [33]]))) rfl H3.out.row ⟨g3,0,none⟩ ln cap3 (cellsT (tv U)) rfl HLU.out (HT3.out.row.cells rfl) (cellsT_okk U) HZU.out (by first | decide | (unfold maxLen;omega)) (by omega) H3.out.tk.size _ rfl ?_;intro g4 cap4 w4 ho hg hat hlt9;have H4:=Lib.hid (H3.out.cat HT3.out HNU.out ho hg (k:=1+ln) rfl);clear ho hg hat hlt9;clear d0 d1 d2 d3 d4;obtain⟨d0,d1,d2,d3,d4,_⟩:=H4.out.kept.box (by decide)))
 go_ret;exact H4.out.post
end Go.Proofs.YthghbdeaenjckaaGreatDoor
