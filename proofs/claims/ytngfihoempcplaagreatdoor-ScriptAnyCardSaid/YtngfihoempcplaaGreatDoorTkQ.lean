import Derived.Lib.ItoaLen
import Derived.Test.YtngfihoempcplaaGreatDoorCf
import Derived.Test.YtngfihoempcplaaGreatDoorTkM
import Derived.Laws.BytesArg
import Derived.Test.YtngfihoempcplaaGreatDoorRMay
import Derived.Deep.QuietTactic
import Derived.BigQuiet
import Derived.RegionTactic
import Derived.ChangeAlike
namespace Go.Proofs.YtngfihoempcplaaGreatDoor
open Go Go.RowKit
set_option maxRecDepth 100000
set_option maxHeartbeats 4000000
theorem z6p (ad:Addr) (m i:Nat) (h:0<i):(⟨(ad.add m).block,(ad.add m).off+i,none⟩:Addr)=ad.add (m+i):=by
 unfold Addr.add;by_cases hk:m=0
 ·subst hk
  have:¬ i=0:=by omega
  simp[this]
 ·have:¬ m+i=0:=by omega
  simp[hk,Nat.add_assoc]
def At5 (w:World) (a:Addr) (t:Tok) (A:OA) (c:Nat):Prop:=
 w.cell? a=some (.int .i64 t.kind)∧w.cell? ⟨a.block,a.off+1,none⟩=some (.string ⟨t.word.toArray⟩)∧w.cell? ⟨a.block,a.off+2,none⟩=some (.int .i64 t.n)∧w.cell? ⟨a.block,a.off+3,none⟩=some (.slice A t.parts.length c)∧w.cell? ⟨a.block,a.off+4,none⟩=some (.int .i64 t.pl)
def RdT (B:Nat) (w:World) (A:OA) (n:Nat) (ts:List Tok):Prop:=n=ts.length∧(0<n→∃ ad,A=some ad∧ad.block<B∧∀ i t,ts[i]?=some t→
 ∃ A' c',At5 w (ad.add (i * 5)) t A' c'∧Rd B w A' t.parts.length t.parts)
theorem RdA.up {B B':Nat} {w:World} {ad:Addr} {ps:List Pt} (h:RdA B w ad ps) (hB:B≤B'):RdA B' w ad ps:=⟨Nat.lt_of_lt_of_le h.1 hB,h.2⟩
theorem Rd.up {B B':Nat} {w:World} {A:OA} {n:Nat} {ps:List Pt} (h:Rd B w A n ps) (hB:B≤B'):Rd B' w A n ps:=
 ⟨h.1,fun hn=>by obtain⟨ad,e,hr⟩:=h.2 hn;exact⟨ad,e,hr.up hB⟩⟩
theorem At5.keep {B:Nat} {w w':World} {a:Addr} {t:Tok} {A:OA} {c:Nat} (h:At5 w a t A c) (hB:a.block<B) (hb:Below B w w'):At5 w' a t A c:=
 ⟨(hb.cell hB).trans h.1,(hb.cell (p:=⟨a.block,a.off+1,none⟩) hB).trans h.2.1,(hb.cell (p:=⟨a.block,a.off+2,none⟩) hB).trans h.2.2.1,(hb.cell (p:=⟨a.block,a.off+3,none⟩) hB).trans h.2.2.2.1,(hb.cell (p:=⟨a.block,a.off+4,none⟩) hB).trans h.2.2.2.2⟩
theorem RdT.keep {B:Nat} {w w':World} {A:OA} {n:Nat} {ts:List Tok} (h:RdT B w A n ts) (hb:Below B w w'):RdT B w' A n ts:=by
 refine⟨h.1,fun hn=>?_⟩;obtain⟨ad,e,hlt,hc⟩:=h.2 hn;refine⟨ad,e,hlt,fun i t ht=>?_⟩;obtain⟨A',c',h5,hr⟩:=hc i t ht;exact⟨A',c',h5.keep (by rw[z2t];exact hlt) hb,hr.keep hb⟩
theorem RdT.up {B B':Nat} {w:World} {A:OA} {n:Nat} {ts:List Tok} (h:RdT B w A n ts) (hB:B≤B'):RdT B' w A n ts:=by
 refine⟨h.1,fun hn=>?_⟩;obtain⟨ad,e,hlt,hc⟩:=h.2 hn;refine⟨ad,e,by omega,fun i t ht=>?_⟩;obtain⟨A',c',h5,hr⟩:=hc i t ht;exact⟨A',c',h5,hr.up hB⟩
theorem RdT.at_ {B:Nat} {w:World} {A:OA} {n:Nat} {ts:List Tok} {k:Nat} {t:Tok} (h:RdT B w A n ts) (hk:ts[k]?=some t):
  ∃ ad A' c',A=some ad∧At5 w (ad.add (k * 5)) t A' c'∧Rd B w A' t.parts.length t.parts:=by
 obtain⟨ad,e,_,hc⟩:=h.2 (by have:=(List.getElem?_eq_some_iff.1 hk).1;have:=h.1;omega);obtain⟨A',c',h5,hr⟩:=hc k t hk;exact⟨ad,A',c',e,h5,hr⟩
theorem y2k:∀ (l:List Tv) (k:Nat) (x:Tv),l[k]?=some x→(cellsT l)[k * 5]?=some (.int .i64 x.1.kind)∧(cellsT l)[k * 5+1]?=some (.string ⟨x.1.word.toArray⟩)∧(cellsT l)[k * 5+2]?=some (.int .i64 x.1.n)∧(cellsT l)[k * 5+3]?=some x.2∧(cellsT l)[k * 5+4]?=some (.int .i64 x.1.pl)
 | [],k,p,h=>by simp at h
 | q::r,0,p,h=>by
   injection h with h;subst h;rw[z7d];simp
 | q::r,k+1,p,h=>by
   have ih:=y2k r k p (by simpa using h);rw[z7d,show (k+1) * 5=k * 5+5 by omega];simpa using ih
theorem z8s {w0 w:World} {B:Nat} {v:Value} {l:List Tv} (h:Tks B w0 w v l):∃ A c,v= .slice A l.length c∧RdT w.heap.size w A l.length (l.map (·.1)):=by
 rcases h.row.2 with ⟨rfl,h0⟩ | ⟨g,cap,cur,rfl,hb,hg,_⟩
 ·exact⟨none,0,by rw[h0],by simp,fun hn=>by omega⟩
 ·refine⟨_,_,rfl,by simp,fun hn=>⟨_,rfl,(Array.getElem?_eq_some_iff.1 hg).1,fun i gl hi=>?_⟩⟩
  rw[List.getElem?_map,Option.map_eq_some_iff] at hi;obtain⟨x,hx,rfl⟩:=hi;obtain⟨c0,c1,c2,c3,c4⟩:=y2k l i x hx;have hs:=h.parts x (List.mem_of_getElem? hx);obtain⟨A',c',e,hr⟩:=z27 (ps:=x.1.parts) hs;refine⟨A',c',⟨h.row.cells (g:=g) rfl _ _ c0,?_,?_,?_,?_⟩,hr⟩
  ·rw[z6p _ _ _ (by omega)];exact h.row.cells (g:=g) rfl _ _ c1
  ·rw[z6p _ _ _ (by omega)];exact h.row.cells (g:=g) rfl _ _ c2
  ·rw[z6p _ _ _ (by omega),h.row.cells (g:=g) rfl _ _ c3,e]
  ·rw[z6p _ _ _ (by omega)];exact h.row.cells (g:=g) rfl _ _ c4
def joinT:List Tok→Bs
 | []=>[]
 | t::r=>textT t++r.flatMap fun t=>32::textT t
theorem z50 (l:List Tok) (t:Tok):joinT (l++[t])=joinT l++(if l=[] then [] else [32])++textT t:=by
 cases l with
 | nil=>simp[joinT]
 | cons x r=>simp[joinT]
def joinE (ts:List Tok):Int:=if ts.all okT then (if 2000<(joinT ts).length then 2 else 0) else 5
def joinB (ts:List Tok):BA:=if ts.all okT∧¬ 2000<(joinT ts).length then ⟨(joinT ts).toArray⟩ else ⟨#[]⟩
theorem z8e {t:Tok} (h:FitT t):(textT t).length≤100001:=by
 unfold textT
 split
 ·have:=Lib.itoa_length_le t.n h.n.1 h.n.2;omega
 ·split
  ·have:=h.print;omega
  ·split
   ·have:=h.word;rw[List.length_cons];omega
   ·split
    ·have:=h.word;rw[List.length_cons];omega
    ·have:=h.word;omega
structure JI (ts:List Tok) (k:Nat) (O:Bs):Prop where
 ok:(ts.take k).all okT=true
 out:O=joinT (ts.take k)∨(2000<O.length∧2000<(joinT (ts.take k)).length)
 len:O.length≤200000
theorem JI.start (ts:List Tok):JI ts 0 []:=⟨rfl,.inl rfl,by simp⟩
theorem z2m {ts:List Tok} {k:Nat} {t:Tok} (h:ts[k]?=some t):ts.take (k+1)=ts.take k++[t]:=by
 obtain⟨hk,e⟩:=List.getElem?_eq_some_iff.1 h;rw[List.take_succ_eq_append_getElem hk,e]
theorem JI.skip {ts:List Tok} {k:Nat} {O:Bs} {t:Tok} (h:JI ts k O) (ht:ts[k]?=some t) (ho:okT t=true) (hl:2000<O.length):JI ts (k+1) O:=by
 refine⟨by rw[z2m ht,List.all_append,h.ok];simp[ho],.inr ⟨hl,?_⟩,h.len⟩;rw[z2m ht,z50,List.length_append,List.length_append]
 rcases h.out with e | e
 ·rw[←e];omega
 ·omega
theorem JI.first {ts:List Tok} {k:Nat} {O:Bs} {t:Tok} (h:JI ts k O) (hk:k=0) (ht:ts[k]?=some t) (ho:okT t=true) (hf:FitT t) (hl:¬ 2000<O.length):JI ts (k+1) (O++textT t):=by
 subst hk;have:=z8e hf;refine⟨by rw[z2m ht,List.all_append,h.ok];simp[ho],.inl ?_,by rw[List.length_append];omega⟩
 rcases h.out with e | e
 ·rw[z2m ht,z50,←e];simp
 ·omega
theorem JI.more {ts:List Tok} {k:Nat} {O:Bs} {t:Tok} (h:JI ts k O) (hk:0<k) (ht:ts[k]?=some t) (ho:okT t=true) (hf:FitT t) (hl:¬ 2000<O.length):JI ts (k+1) (O++[32]++textT t):=by
 have:=z8e hf;refine⟨by rw[z2m ht,List.all_append,h.ok];simp[ho],.inl ?_,by simp;omega⟩
 have hne:¬ ts.take k=[]:=by
  intro e;have h1:=congrArg List.length e;have h2:=(List.getElem?_eq_some_iff.1 ht).1;rw[List.length_take,List.length_nil] at h1;omega
 rcases h.out with e | e
 ·rw[z2m ht,z50,if_neg hne,←e]
 ·omega
theorem JI.bad {ts:List Tok} {k:Nat} {t:Tok} (ht:ts[k]?=some t) (ho:okT t=false):joinE ts=5∧joinB ts=⟨#[]⟩:=by
 have:ts.all okT=false:=by rw[List.all_eq_false];exact⟨t,List.mem_of_getElem? ht,by simp[ho]⟩
 unfold joinE joinB;rw[this];exact⟨rfl,by simp⟩
theorem JI.long {ts:List Tok} {k:Nat} {O:Bs} (h:JI ts k O) (hk:¬ k<ts.length) (hl:2000<O.length):joinE ts=2∧joinB ts=⟨#[]⟩:=by
 have h1:=h.ok;have h2:=h.out;rw[List.take_of_length_le (by omega)] at h1 h2
 have h3:2000<(joinT ts).length:=by
  rcases h2 with e | e
  ·rw[←e];exact hl
  ·exact e.2
 unfold joinE joinB;rw[h1,if_pos rfl,if_pos h3,if_neg (by simp;omega)];exact⟨rfl,rfl⟩
theorem JI.done {ts:List Tok} {k:Nat} {O:Bs} (h:JI ts k O) (hk:¬ k<ts.length) (hl:¬ 2000<O.length):joinE ts=0∧joinB ts=⟨O.toArray⟩:=by
 have h1:=h.ok;have h2:=h.out;rw[List.take_of_length_le (by omega)] at h1 h2
 have h3:O=joinT ts:=by
  rcases h2 with e | e
  ·exact e
  ·omega
 unfold joinE joinB;rw[←h3,h1,if_pos rfl,if_neg hl,if_pos ⟨rfl,hl⟩];exact⟨rfl,rfl⟩
abbrev RowO (B:Nat) (w0 w:World) (v:Value) (O:Bs):Prop:=Two2 B w0 w (.slice none 0 0) v [] O
theorem RowO.str {B:Nat} {w0 w w':World} {v v':Value} {O:Bs} {s:BA} (u:Bs) (hu:s.data.toList=u) (h:RowO B w0 w v O)
  (ho:w'.ownsRow B 5 1 v' (O.length+s.size) (byteCells O++Lib.strCells s)) (hg:w.grownBy w' v.ownBlock):RowO B w0 w' v' (O++u):=by
 have e:s.size=u.length:=by rw[←z0d,hu]
 rw[Lib.strCells_eq,hu,e] at ho;exact h.bytes u ho hg
theorem x14 {w:World} {B:Nat} {v:Value} {t:Bs} (h:w.ownsRow B 5 1 v t.length (byteCells t)):(v= .slice none 0 0∧t=[])∨∃ g c,v= .slice (some ⟨g,0,none⟩) t.length c∧(convert 86 9 v).run Tryz.prog w= .ok (.string ⟨t.toArray⟩) w:=by
 rcases z13 h with ⟨e,e2⟩ | ⟨g,cap,rfl,_⟩
 ·exact .inl ⟨e,e2⟩
 ·exact .inr ⟨g,cap,rfl,z6x h⟩
theorem x4p {t:Tok} (h:okT t=true):errB t=0∧textB t=⟨(textT t).toArray⟩:=by unfold errB textB;rw[h];exact⟨rfl,rfl⟩
theorem y45 {a b:BA} {x y:Int} (h:b=a) (g:y=x):Ending.returned (.tuple #[a,x])= .returned (.tuple #[b,y]):=by rw[h,g]
theorem x4j {t:Tok} (h:okT t=false):errB t=5:=by unfold errB;rw[h];rfl
theorem x1l (A:OA) (n c:Nat) (ts:List Tok) (w:World) (h:RdT w.heap.size w A n ts) (hn:n≤1000000) (hf:∀ t∈ts,FitT t) (hG:Given w):
  Cz 27 #[.slice A n c] w fun e w'=>e= .returned (.tuple #[.string (joinB ts),iI (joinE ts)])∧Below w.heap.size w w':=by
 have HR:=zz h;have HG:=zz hG;have HF:=zz hf;have HN:=zz h.1;obtain⟨j0,hj0,hy0,hy1,hy2⟩:=info_parts info5;clear h hG hf;go_enter Tryz.func27,Tryz.ntmps27;go_wp2
 go_loopw [4,11] (fun v i wr=>∃ (k:Nat) (O:Bs),k≤n∧i= .int .i64 k∧JI ts k O∧RowO w.heap.size w wr v O) (fun _ i _=>n - (intOf i).toNat)
 case atStart=>exact⟨0,[],by omega,rfl,JI.start ts,⟨World.ownsRow_nil _ _ _ _,World.ownsRow_nil _ _ _ _,Below.refl _ _,Nat.le_refl _⟩⟩
 case round=>
  obtain⟨k,O,hk,rfl,hJ,hO⟩:=hrel;have HJ:=zz hJ;have HO:=zz hO;have hOl:=hJ.len;clear hJ hO;by_cases a:k<n
  ·obtain⟨t,ht⟩:∃ t,ts[k]?=some t:=⟨_,List.getElem?_eq_getElem (by have:=HN.out;omega)⟩
   obtain⟨ad,A',c',rfl,⟨c0,c1,c2,c3,c4⟩,hrd⟩:=(HR.out.keep HO.out.below).at_ ht
   have hft:=HF.out t (List.mem_of_getElem? ht);have hrd0:Rd w.heap.size wr A' t.parts.length t.parts:=hrd
   have KT:Hid (∀ w',Below wr.heap.size wr w'→Cz 42 #[tokA t A' c'] w' fun e w2=>e= .returned (.tuple #[.string (textB t),iI (errB t)])∧Below w'.heap.size w' w2):=zz fun w' hb=>
    y4b t A' c' w' ((hrd0.up HO.out.size).onto hb) hft (HG.out.below (HO.out.below.trans (hb.mono HO.out.size)))
   unfold tokA at KT;have HT:=zz ht;have HFT:=zz hft;obtain⟨W,hW⟩:∃ W:BA,W=⟨t.word.toArray⟩:=⟨_,rfl⟩;rw[←hW] at c1 KT;obtain⟨m,hm⟩:∃ m,m=t.parts.length:=⟨_,rfl⟩;rw[←hm] at c3 KT;clear hrd hrd0 ht hft hW hm;by_cases ho:okT t=true
   ·obtain⟨e1,e2⟩:=x4p ho
    rw[e1,e2] at KT;obtain⟨T,hT⟩:∃ T:BA,T=⟨(textT t).toArray⟩:=⟨_,rfl⟩;rw[←hT] at KT;have hTd:T.data.toList=textT t:=by rw[hT]
    have hTs:T.size≤100001:=by rw[←z0d,hTd];exact z8e HFT.out
    have HTd:=zz hTd;have HOk:=zz ho;clear e1 e2 hT hTd ho;by_cases hl:2000<O.length
    ·rcases z13 HO.out.text with ⟨rfl,e0⟩ | ⟨g,cap,rfl,hcap⟩
     ·rw[e0] at hl;exact absurd hl (by decide)
     ·have HS:Hid (JI ts (k+1) O):=zz (HJ.out.skip HT.out HOk.out hl)
      obtain⟨q,hq⟩:∃ q,q=O.length:=⟨_,rfl⟩;have HQ:=zz hq;rw[←hq] at hl ⊢;have hl2:2000<(q:Int):=by omega
      rw[←hq] at HO hcap hOl;clear hq;go_wp2_with (go_at_call 42;((with_reducible refine(KT.out _ (bR.alloc nR _)).mono ?_));rintro e w1 ⟨rfl,hb⟩;have HB:=zz (((Below.refl wr.heap.size wr).alloc nR _).trans (hb.mono (by simp)));clear hb)
      go_roundw
      case rel=>exact⟨k+1,O,by omega,by go_num,HS.out,by have:=HO.out.beyond HB.out;rw[HQ.out] at this ⊢;exact this⟩
      case measure=>simp[intOf];omega
    ·by_cases hk0:k=0
     ·have HS:Hid (JI ts (k+1) (O++textT t)):=zz (HJ.out.first hk0 HT.out HOk.out HFT.out hl)
      have hk1:¬ 0<k:=by omega
      have hk2:¬ (0:Int)<k:=by omega
      clear hk0;have hl2:¬ (2000:Int)<O.length:=by omega
      rcases z13 HO.out.text with ⟨rfl,e0⟩ | ⟨g,cap,rfl,hcap⟩
      ·clear e0
       go_wp2_with (first | (go_at_call 42;((with_reducible refine(KT.out _ (bR.alloc nR _)).mono ?_));rintro e w1 ⟨rfl,hb⟩;have HB:=zz (((Below.refl wr.heap.size wr).alloc nR _).trans (hb.mono (by simp)));clear hb;have S1:=zz (HO.out.beyond HB.out)) | (at_builtin;refine Lib.wpList_append_own_string _ rfl (.tmp 32) (.tmp 33) 86 9 rfl w.heap.size 5 j0 Tryz.underlying86 Tryz.underlying9 hj0 hy0 hy1 hy2 _ _ _ rfl S1.out.text T rfl (by unfold maxLen;(try simp);omega) (by(try simp);omega) S1.out.size ?_;intro v3 w3 h3 g3 _;have S3:=zz (RowO.str (textT t) HTd.out S1.out h3 g3);clear h3 g3))
       go_roundw
       case rel=>exact⟨k+1,_,by omega,by go_num,HS.out,S3.out⟩
       case measure=>simp[intOf];omega
      ·go_wp2_with (first | (go_at_call 42;((with_reducible refine(KT.out _ (bR.alloc nR _)).mono ?_));rintro e w1 ⟨rfl,hb⟩;have HB:=zz (((Below.refl wr.heap.size wr).alloc nR _).trans (hb.mono (by simp)));clear hb;have S1:=zz (HO.out.beyond HB.out)) | (at_builtin;refine Lib.wpList_append_own_string _ rfl (.tmp 32) (.tmp 33) 86 9 rfl w.heap.size 5 j0 Tryz.underlying86 Tryz.underlying9 hj0 hy0 hy1 hy2 _ _ _ rfl S1.out.text T rfl (by unfold maxLen;(try simp);omega) (by(try simp);omega) S1.out.size ?_;intro v3 w3 h3 g3 _;have S3:=zz (RowO.str (textT t) HTd.out S1.out h3 g3);clear h3 g3))
       go_roundw
       case rel=>exact⟨k+1,_,by omega,by go_num,HS.out,S3.out⟩
       case measure=>simp[intOf];omega
     ·have HS:Hid (JI ts (k+1) (O++[32]++textT t)):=zz (HJ.out.more (by omega) HT.out HOk.out HFT.out hl)
      have hl2:¬ (2000:Int)<O.length:=by omega
      have hk1:0<k:=by omega
      have hk2:(0:Int)<k:=by omega
      rcases z13 HO.out.text with ⟨rfl,e0⟩ | ⟨g,cap,rfl,hcap⟩
      ·clear e0
       go_wp2_with (first | (go_at_call 42;((with_reducible refine(KT.out _ (bR.alloc nR _)).mono ?_));rintro e w1 ⟨rfl,hb⟩;have HB:=zz (((Below.refl wr.heap.size wr).alloc nR _).trans (hb.mono (by simp)));clear hb;have S1:=zz (HO.out.beyond HB.out)) | (at_builtin;refine wpList_append_own _ rfl (.tmp 29) (.tmp 30) 86 rfl w.heap.size 5 j0 (.int .u8 0) 1 1 Tryz.underlying86 hj0 hy0 hy1 hy2 rfl (by decide) _ _ _ rfl (S1.out.alloc _).text ⟨w1.heap.size,0,none⟩ 1 1 [.int .u8 32] rfl rfl (fun j u hu=>z0k w1 5 #[.int .u8 32] j u hu) (z52 _) (by unfold maxLen;omega) (by omega) (S1.out.alloc _).size ?_;intro v2 w2 h2 g2 _;have S2:=zz ((S1.out.alloc _).bytes [32] h2 g2);clear h2 g2) | (at_builtin;refine Lib.wpList_append_own_string _ rfl (.tmp 32) (.tmp 33) 86 9 rfl w.heap.size 5 j0 Tryz.underlying86 Tryz.underlying9 hj0 hy0 hy1 hy2 _ _ _ rfl S2.out.text T rfl (by unfold maxLen;(try simp);omega) (by(try simp);omega) S2.out.size ?_;intro v3 w3 h3 g3 _;have S3:=zz (RowO.str (textT t) HTd.out S2.out h3 g3);clear h3 g3))
       go_roundw
       case rel=>exact⟨k+1,_,by omega,by go_num,HS.out,S3.out⟩
       case measure=>simp[intOf];omega
      ·go_wp2_with (first | (go_at_call 42;((with_reducible refine(KT.out _ (bR.alloc nR _)).mono ?_));rintro e w1 ⟨rfl,hb⟩;have HB:=zz (((Below.refl wr.heap.size wr).alloc nR _).trans (hb.mono (by simp)));clear hb;have S1:=zz (HO.out.beyond HB.out)) | (at_builtin;refine wpList_append_own _ rfl (.tmp 29) (.tmp 30) 86 rfl w.heap.size 5 j0 (.int .u8 0) 1 1 Tryz.underlying86 hj0 hy0 hy1 hy2 rfl (by decide) _ _ _ rfl (S1.out.alloc _).text ⟨w1.heap.size,0,none⟩ 1 1 [.int .u8 32] rfl rfl (fun j u hu=>z0k w1 5 #[.int .u8 32] j u hu) (z52 _) (by unfold maxLen;omega) (by omega) (S1.out.alloc _).size ?_;intro v2 w2 h2 g2 _;have S2:=zz ((S1.out.alloc _).bytes [32] h2 g2);clear h2 g2) | (at_builtin;refine Lib.wpList_append_own_string _ rfl (.tmp 32) (.tmp 33) 86 9 rfl w.heap.size 5 j0 Tryz.underlying86 Tryz.underlying9 hj0 hy0 hy1 hy2 _ _ _ rfl S2.out.text T rfl (by unfold maxLen;(try simp);omega) (by(try simp);omega) S2.out.size ?_;intro v3 w3 h3 g3 _;have S3:=zz (RowO.str (textT t) HTd.out S2.out h3 g3);clear h3 g3))
       go_roundw
       case rel=>exact⟨k+1,_,by omega,by go_num,HS.out,S3.out⟩
       case measure=>simp[intOf];omega
   ·have ho:=Bool.eq_false_iff.2 ho
    obtain⟨e1,e2⟩:=JI.bad HT.out ho;rw[x4j ho] at KT;have H1:=zz e1;have H2:=zz e2;clear e1 e2 ho;go_wp2_with (go_at_call 42;((with_reducible refine(KT.out _ (bR.alloc nR _)).mono ?_));rintro e w1 ⟨rfl,hb⟩;have HB:=zz (((Below.refl wr.heap.size wr).alloc nR _).trans (hb.mono (by simp)));clear hb)
    go_ret2
    exact⟨y45 H2.out H1.out,(HO.out.beyond HB.out).below⟩
  ·have hkn:¬ k<ts.length:=by have:=HN.out;omega
   by_cases hl:2000<O.length
   ·obtain⟨e1,e2⟩:=HJ.out.long hkn hl
    have H1:=zz e1;have H2:=zz e2;have hl2:(2000:Int)<O.length:=by omega
    rcases z13 HO.out.text with ⟨rfl,e0⟩ | ⟨g,cap,rfl,hcap⟩
    ·rw[e0] at hl;exact absurd hl (by decide)
    ·clear e1 e2 hkn
     go_wp2
     go_ret2
     exact⟨y45 H2.out H1.out,HO.out.below⟩
   ·obtain⟨e1,e2⟩:=HJ.out.done hkn hl
    have H1:=zz e1;have H2:=zz e2;have hl2:¬ (2000:Int)<O.length:=by omega
    rcases x14 HO.out.text with ⟨rfl,e0⟩ | ⟨g,cap,rfl,hcv⟩
    ·have HE:=zz e0
     have hcn:(convert 86 9 (.slice none 0 0)).run Tryz.prog wr= .ok (.string ⟨#[]⟩) wr:=run_convert_bytes_nil _ 86 5 Tryz.underlying86 Tryz.underlying5 0 0 9 Tryz.underlying9;clear e1 e2 hkn e0;go_wp2
     go_ret2
     exact⟨y45 (H2.out.trans (by rw[HE.out])) H1.out,HO.out.below⟩
    ·obtain⟨OB,hOB⟩:∃ OB:BA,OB=⟨O.toArray⟩:=⟨_,rfl⟩
     rw[←hOB] at hcv;have HOB:=zz hOB;clear e1 e2 hkn hOB;go_wp2
     go_ret2
     exact⟨y45 (H2.out.trans HOB.out.symm) H1.out,HO.out.below⟩
theorem x4b (x y x' y':BA) (b:Bool) (hb:b= !(x.toList==x'.toList && y.toList==y'.toList)) (w:World):(binOp .neq 81 (.agg #[x,y]) (.agg #[x',y'])).run Tryz.prog w= .ok (.bool b) w:=by
 have hf:=x0x;rw[run_neq_struct,run_equalIn_struct w 9999 81 _ _ x3l x43,hb];generalize (Tryz.prog.fieldsOf 81).toList=L at hf ⊢
 rcases L with _ | ⟨f,_ | ⟨g,_ | ⟨h,L⟩⟩⟩
 ·simp at hf
 ·simp at hf
 ·simp only[List.map_cons,List.map_nil,List.cons.injEq,Prod.mk.injEq,and_true] at hf
  obtain⟨⟨f1,f2,f3⟩,⟨g1,g2,g3⟩⟩:=hf;by_cases e1:(x.toList==x'.toList)=true
  ·by_cases e2:(y.toList==y'.toList)=true
   ·simp[Op.eqFields,f1,f2,f3,g1,g2,g3,go_sem,run_equalIn_string _ 9998 9 _ _ Tryz.underlying9,e1,e2]
   ·simp[Op.eqFields,f1,f2,f3,g1,g2,g3,go_sem,run_equalIn_string _ 9998 9 _ _ Tryz.underlying9,e1,e2]
  ·simp[Op.eqFields,f1,f2,f3,g1,g2,g3,go_sem,run_equalIn_string _ 9998 9 _ _ Tryz.underlying9,e1]
 ·simp at hf
theorem x21 (p q:Pt) (w:World):(binOp .neq 81 (.agg #[p.1,p.2]) (.agg #[q.1,q.2])).run Tryz.prog w= .ok (.bool (!decide (p=q))) w:=by
 refine x4b _ _ _ _ _ ?_ w;rw[toList_data,toList_data,toList_data,toList_data]
 congr 1
 rw[Bool.eq_iff_iff];simp[Prod.ext_iff]
theorem y78 (A A':OA) (n n' c c':Nat) (ps qs:List Pt) (w:World) (h:Rd w.heap.size w A n ps) (h':Rd w.heap.size w A' n' qs) (hmax:n≤1000000):
  Cz 21 #[.slice A n c,.slice A' n' c'] w fun e w'=>e= .returned (.bool (decide (ps=qs)))∧Below w.heap.size w w':=by
 by_cases hnn:n=n'
 ·subst hnn
  obtain⟨v,hv⟩:∃ v,v=decide (ps=qs):=⟨_,rfl⟩;rw[←hv];have HV:=zz hv;have HN:=zz h.1;have HN':=zz h'.1;have HR:=zz h;have HR':=zz h';clear h h' hv;go_enter Tryz.func21,Tryz.ntmps21;go_wp2
  go_loopw [5] (fun i wr=>∃ (k m:Nat),k≤n∧i= .int .i64 k∧ps.take k=qs.take k∧wr=w.drewN m) (fun i _=>n - (intOf i).toNat)
  case atStart=>exact⟨0,0,by omega,rfl,rfl,rfl⟩
  case round=>
   obtain⟨k,m,hk,rfl,htk,rfl⟩:=hrel;have HT:=zz htk;clear htk;by_cases a:k<n
   ·obtain⟨ad,rfl,hr⟩:=HR.out.2 (by omega)
    obtain⟨ad',rfl,hr'⟩:=HR'.out.2 (by omega);obtain⟨p,hp⟩:∃ p,ps[k]?=some p:=⟨_,List.getElem?_eq_getElem (by have:=HN.out;omega)⟩;obtain⟨q,hq⟩:∃ q,qs[k]?=some q:=⟨_,List.getElem?_eq_getElem (by have:=HN'.out;omega)⟩;obtain⟨c0,c1⟩:=hr.at_ hp
    obtain⟨d0,d1⟩:=hr'.at_ hq
    have hcmp:=fun W:World=>x21 p q W
    by_cases e:p=q
    ·have HX:Hid (ps.take (k+1)=qs.take (k+1)):=by
      apply Lib.hid;obtain⟨i1,i2⟩:=List.getElem?_eq_some_iff.1 hp;obtain⟨j1,j2⟩:=List.getElem?_eq_some_iff.1 hq;rw[List.take_succ_eq_append_getElem i1,List.take_succ_eq_append_getElem j1,HT.out,i2,j2,e]
     rw[decide_eq_true e] at hcmp;simp only[Bool.not_true] at hcmp;clear hr hr' hp hq e;go_wp2;go_quiet (fail);go_wp2
     go_roundw
     case rel=>exact⟨k+1,_,by omega,by go_num,HX.out,rfl⟩
     case measure=>simp[intOf];omega
    ·have HX:Hid (v=false):=by
      apply Lib.hid;rw[HV.out,decide_eq_false_iff_not];rintro rfl;rw[hp] at hq;injection hq with hq;exact e hq
     rw[decide_eq_false e] at hcmp;simp only[Bool.not_false] at hcmp;clear hr hr' hp hq e;go_wp2;go_quiet (fail);go_wp2;go_ret;exact⟨z0c HX.out.symm,z0e (z0e bR _) _⟩
   ·have HX:Hid (v=true):=by
     apply Lib.hid;have h1:=HT.out;rw[List.take_of_length_le (by have:=HN.out;omega),List.take_of_length_le (by have:=HN'.out;omega)] at h1;rw[HV.out,decide_eq_true_iff];exact h1
    go_wp2;go_ret;exact⟨z0c HX.out.symm,z0e bR m⟩
 ·have hne:decide (ps=qs)=false:=by
   rw[decide_eq_false_iff_not];rintro rfl;exact hnn (h.1.trans h'.1.symm)
  rw[hne];have b1:((n:Int) != (n':Int))=true:=by simp;omega
  have b2:(n != n')=true:=by simpa using hnn
  clear h h' hne hnn;go_enter Tryz.func21,Tryz.ntmps21;go_wp2;go_ret;exact⟨rfl,Below.refl _ _⟩
theorem z2g (c:UInt8) (w:World):Cz 63 #[.int .u8 c.toNat,.bool false] w fun e w'=>e= .returned (.bool (isLow c))∧w=w':=by
 obtain⟨n,hn⟩:∃ n:Int,n=c.toNat:=⟨_,rfl⟩;have e:isLow c=decide (97≤n∧n≤122):=by rw[hn];rfl
 rw[e,←hn];clear e hn;by_cases h1:97≤n <;> by_cases h2:n≤122
 all_goals
  go_enter Tryz.func63,Tryz.ntmps63;go_wp2;go_ret;exact⟨z0c (by simp[h1,h2]),rfl⟩
theorem y6l (c:UInt8) (w:World):Cz 63 #[.int .u8 c.toNat,.bool true] w fun e w'=>e= .returned (.bool (isIn c))∧w=w':=by
 obtain⟨n,hn⟩:∃ n:Int,n=c.toNat:=⟨_,rfl⟩;have e:isIn c=(decide (97≤n∧n≤122) || decide (48≤n∧n≤57) || decide (n=95)):=by rw[hn];rfl
 rw[e,←hn];clear e hn;obtain⟨v,hv⟩:∃ v,v=(decide (97≤n∧n≤122) || decide (48≤n∧n≤57) || decide (n=95)):=⟨_,rfl⟩;rw[←hv];have HV:=zz hv;clear hv;by_cases h0:n=95
 ·subst h0
  go_enter Tryz.func63,Tryz.ntmps63;go_wp2;go_ret;exact⟨z0c (by rw[HV.out];rfl),rfl⟩
 ·have hb:(n==95)=false:=by simpa using h0
  by_cases h1:97≤n
  ·have h3:48≤n:=by omega
   have h4:¬ n≤57:=by omega
   by_cases h2:n≤122
   all_goals
    go_enter Tryz.func63,Tryz.ntmps63;go_wp2;go_ret;exact⟨z0c (by rw[HV.out];simp;omega),rfl⟩
  ·by_cases h3:48≤n <;> by_cases h4:n≤57
   all_goals
    go_enter Tryz.func63,Tryz.ntmps63;go_wp2;go_ret;exact⟨z0c (by rw[HV.out];simp;omega),rfl⟩
theorem y9t (s:BA) (k:Nat) (hk:k≤s.size) (hs:s.size≤1000000) (w:World):
  Cz 64 #[s,k,.bool false] w fun e w'=>e= .returned (.int .i64 ((k+runL isIn (s.data.toList.drop k):Nat):Int))∧w=w':=by
 obtain⟨N,hN⟩:∃ N,N=k+runL isIn (s.data.toList.drop k):=⟨_,rfl⟩;rw[←hN];have HN:=zz hN;clear hN;go_enter Tryz.func64,Tryz.ntmps64;go_wp2
 go_loop [1] (fun a=>∃ j:Nat,j≤s.size∧a= .int .i64 j∧N=j+runL isIn (s.data.toList.drop j)) (fun a=>s.size - (intOf a).toNat)
 case atStart=>exact⟨k,hk,rfl,HN.out⟩
 case round=>
  obtain⟨j,hj,rfl,hn⟩:=hrel;have HJ:=zz hn;clear hn;by_cases a:j<s.size
  ·have K:=zz fun w=>y6l s[j] w
   have hr:=z2w isIn s j a;by_cases c:isIn s[j]=true
   ·rw[c] at K
    have HX:Hid (N=(j+1)+runL isIn (s.data.toList.drop (j+1))):=by apply Lib.hid;rw[HJ.out,hr,if_pos c];omega
    clear hr c;go_wp2_with (go_at_call 63;((with_reducible refine(K.out _).mono ?_));rintro e w' ⟨rfl,rfl⟩)
    go_round
    case rel=>exact⟨j+1,by omega,by go_num,HX.out⟩
    case measure=>simp[intOf];omega
   ·rw[Bool.eq_false_iff.2 c] at K
    have HX:Hid (j=N):=by apply Lib.hid;rw[HJ.out,hr,if_neg c];omega
    clear hr c;go_wp2_with (go_at_call 63;((with_reducible refine(K.out _).mono ?_));rintro e w' ⟨rfl,rfl⟩);go_ret;exact⟨z0m (by rw[HX.out]),rfl⟩
  ·have HX:Hid (j=N):=by apply Lib.hid;rw[HJ.out,z2f _ _ _ a];omega
   go_wp2;go_ret;exact⟨z0m (by rw[HX.out]),rfl⟩
theorem x1s (s:BA) (k:Nat) (hk:k≤s.size) (hs:s.size≤1000000) (w:World):
  Cz 64 #[s,k,.bool true] w fun e w'=>e= .returned (.int .i64 ((k+runL isDig (s.data.toList.drop k):Nat):Int))∧w=w':=by
 obtain⟨N,hN⟩:∃ N,N=k+runL isDig (s.data.toList.drop k):=⟨_,rfl⟩;rw[←hN];have HN:=zz hN;clear hN;go_enter Tryz.func64,Tryz.ntmps64;go_wp2
 go_loop [1] (fun a=>∃ j:Nat,j≤s.size∧a= .int .i64 j∧N=j+runL isDig (s.data.toList.drop j)) (fun a=>s.size - (intOf a).toNat)
 case atStart=>exact⟨k,hk,rfl,HN.out⟩
 case round=>
  obtain⟨j,hj,rfl,hn⟩:=hrel;have HJ:=zz hn;clear hn;by_cases a:j<s.size
  ·have hr:=z2w isDig s j a
   by_cases c:isDig s[j]=true
   ·have HX:Hid (N=(j+1)+runL isDig (s.data.toList.drop (j+1))):=by apply Lib.hid;rw[HJ.out,hr,if_pos c];omega
    have hc:48≤(s[j].toNat:Int)∧(s[j].toNat:Int)≤57:=by unfold isDig at c;exact of_decide_eq_true c
    obtain⟨c1,c2⟩:=hc;clear hr c;go_wp2
    go_round
    case rel=>exact⟨j+1,by omega,by go_num,HX.out⟩
    case measure=>simp[intOf];omega
   ·have HX:Hid (j=N):=by apply Lib.hid;rw[HJ.out,hr,if_neg c];omega
    have hc:(s[j].toNat:Int)<48∨(48≤(s[j].toNat:Int)∧57<(s[j].toNat:Int)):=by
     unfold isDig at c;have:=of_decide_eq_false (Bool.eq_false_iff.2 c);omega
    clear hr c
    rcases hc with c1 | ⟨c1,c2⟩
    all_goals
     go_wp2;go_ret;exact⟨z0m (by rw[HX.out]),rfl⟩
  ·have HX:Hid (j=N):=by apply Lib.hid;rw[HJ.out,z2f _ _ _ a];omega
   go_wp2;go_ret;exact⟨z0m (by rw[HX.out]),rfl⟩
theorem z65 (s:BA) (k:Nat) (hk:k≤s.size) (hs:s.size≤1000000) (w:World):
  Cz 68 #[s,k] w fun e w'=>e= .returned (.int .i64 ((k+runL isLow (s.data.toList.drop k):Nat):Int))∧w=w':=by
 obtain⟨N,hN⟩:∃ N,N=k+runL isLow (s.data.toList.drop k):=⟨_,rfl⟩;rw[←hN];have HN:=zz hN;clear hN;go_enter Tryz.func68,Tryz.ntmps68;go_wp2
 go_loop [1] (fun a=>∃ j:Nat,j≤s.size∧a= .int .i64 j∧N=j+runL isLow (s.data.toList.drop j)) (fun a=>s.size - (intOf a).toNat)
 case atStart=>exact⟨k,hk,rfl,HN.out⟩
 case round=>
  obtain⟨j,hj,rfl,hn⟩:=hrel;have HJ:=zz hn;clear hn;by_cases a:j<s.size
  ·have K:=zz fun w=>z2g s[j] w
   have hr:=z2w isLow s j a;by_cases c:isLow s[j]=true
   ·rw[c] at K
    have HX:Hid (N=(j+1)+runL isLow (s.data.toList.drop (j+1))):=by apply Lib.hid;rw[HJ.out,hr,if_pos c];omega
    clear hr c;go_wp2_with (go_at_call 63;((with_reducible refine(K.out _).mono ?_));rintro e w' ⟨rfl,rfl⟩)
    go_round
    case rel=>exact⟨j+1,by omega,by go_num,HX.out⟩
    case measure=>simp[intOf];omega
   ·rw[Bool.eq_false_iff.2 c] at K
    have HX:Hid (j=N):=by apply Lib.hid;rw[HJ.out,hr,if_neg c];omega
    clear hr c;go_wp2_with (go_at_call 63;((with_reducible refine(K.out _).mono ?_));rintro e w' ⟨rfl,rfl⟩);go_ret;exact⟨z0m (by rw[HX.out]),rfl⟩
  ·have HX:Hid (j=N):=by apply Lib.hid;rw[HJ.out,z2f _ _ _ a];omega
   go_wp2;go_ret;exact⟨z0m (by rw[HX.out]),rfl⟩
theorem y86 (s:BA) (w:World):Cz 69 #[s] w fun e w'=>e= .returned (.bool (isFlagL s.data.toList))∧w=w':=by
 by_cases h:isFlagL s.data.toList=true
 ·rw[h]
  unfold isFlagL at h
  rcases of_decide_eq_true h with h | h | h | h
  all_goals
   obtain rfl:=ba_eq s _ h;clear h;go_enter Tryz.func69,Tryz.ntmps69;go_wp2;go_ret;exact⟨rfl,rfl⟩
 ·have h:=Bool.eq_false_iff.2 h
  rw[h];unfold isFlagL at h;have h:=of_decide_eq_false h;have n0:=z00 (fun e=>h (.inl e));have n1:=z00 (fun e=>h (.inr (.inl e)));have n2:=z00 (fun e=>h (.inr (.inr (.inl e))));have n3:=z00 (fun e=>h (.inr (.inr (.inr e))));clear h;go_enter Tryz.func69,Tryz.ntmps69;go_wp2;go_ret;exact⟨rfl,rfl⟩
def endO (k:Nat) (R:TR):Nat:=match R with | .bad _ _=>0 | .ok _ q=>k+q
def badO (k:Nat) (R:TR):Nat:=match R with | .bad q _=>k+q | .ok _ _=>0
def PostO (w0:World) (k:Nat) (R:TR) (e:Ending) (w':World):Prop:=
 ∃ (t:Tok) (v:Value),e= .returned (.tuple #[tokV t v,iI (endO k R),iI (badO k R),iI (errR R)])∧OwnP w0.heap.size w' v t.parts∧Below w0.heap.size w0 w'∧∀ t' q,R= .ok t' q→withPl t' k=t
theorem y34 (l:Bs) (h:lowHead l=true):isWordL (l.take (runL isIn l))=decide (runL isIn l≤14):=by
 cases l with
 | nil=>cases h
 | cons c r=>
   have hc:isLow c=true:=h;have hi:=x2z c hc;have hall:=z6h isIn r;have hle:=z1w isIn r;rw[z1t,if_pos hi,List.take_succ_cons];show (isLow c && (r.take (runL isIn r)).all isIn && decide ((r.take (runL isIn r)).length≤13))=_;rw[hc,hall,List.length_take,Nat.min_eq_left hle,Bool.true_and,Bool.true_and];rw[Bool.eq_iff_iff,decide_eq_true_iff,decide_eq_true_iff];omega
theorem z7x (l:Bs):lowHead l=decide (0<runL isLow l):=by
 cases l with
 | nil=>rfl
 | cons c r=>
   rw[z1t];show isLow c=_;by_cases h:isLow c=true
   ·rw[h,if_pos rfl];simp
   ·rw[Bool.eq_false_iff.2 h,if_neg (by decide)];rfl
theorem x5r (w:Bs):mayW 1 w=isWordL w:=rfl
theorem x24 (w:Bs):mayW 4 w=isSignL w:=by unfold mayW;rw[if_neg (by decide),if_pos rfl]
theorem x5f (w:Bs):mayW 5 w=isFlagL w:=by unfold mayW;rw[if_neg (by decide),if_neg (by decide),if_pos rfl]
theorem x5k (w:Bs):mayW 6 w=isName w:=by unfold mayW;rw[if_neg (by decide),if_neg (by decide),if_neg (by decide),if_pos rfl]
theorem z34 {w w':World} {k:Nat} (h:Below w.heap.size w w') (x:Int):PostO w k (.bad 0 x) (.returned (.tuple #[.agg #[oZ,oS,oZ,(),oZ],oZ,k,x])) w':=
 ⟨⟨0,[],0,[],0⟩,(),rfl,World.ownsRow_nil _ _ _ _,h,fun t' q h=>by cases h⟩
theorem z3a {w w':World} {s:BA} {k f n q p:Nat} {kd:Int} {E:BA} (hE:E=s.extract f (f+n)) (h:Below w.heap.size w w') (hp:p=k+q):PostO w k (.ok ⟨kd,(s.data.toList.drop f).take n,0,[],0⟩ q) (.returned (.tuple #[.agg #[kd,E,oZ,(),k],p,oZ,oZ])) w':=by
 rw[hE,y5e,hp];exact⟨⟨kd,(s.data.toList.drop f).take n,0,[],k⟩,(),rfl,World.ownsRow_nil _ _ _ _,h,fun t' q h=>by injection h with h _;subst h;rfl⟩
theorem x03 (s:BA) (k:Nat) (hk:k<s.size) (hs:s.size≤4000) (hl:isLow s[k]=true) (w:World):
  Cz 33 #[s,k] w (PostO w k (tokR (s.data.toList.drop k))):=by
 obtain⟨h34,hd,h36,h45⟩:=y4v _ hl;obtain⟨R,hR⟩:∃ R,R=tokR (s.data.toList.drop k):=⟨_,rfl⟩;rw[←hR]
 replace hR:R=wordR 1 ((s.data.toList.drop k).take (runL isIn (s.data.toList.drop k))) (runL isIn (s.data.toList.drop k)):=by
  rw[hR]
  conv=>lhs;rw[z0h s k hk]
  unfold tokR;dsimp only;rw[if_neg h34,if_neg (by rw[hd];decide),if_pos hl,←z0h s k hk]
 have hlow:lowHead (s.data.toList.drop k)=true:=by rw[z0h s k hk];exact hl
 have hw:=y34 _ hlow;have KR:=zz fun w=>y9t s k (by omega) (by omega) w
 have hrun:=z1w isIn (s.data.toList.drop k);rw[List.length_drop,z0d] at hrun;generalize runL isIn (s.data.toList.drop k)=n at KR hrun hR hw;have KL:=zz fun w=>z2g s[k] w
 rw[hl] at KL;obtain⟨q,hq⟩:∃ q,q=k+n:=⟨_,rfl⟩;unfold wordR at hR;rw[x5r,hw] at hR;have hE:s.extract k q=s.extract k (k+n):=by rw[hq]
 have HE:=zz hE;have HQ:=zz hq;have hqn:(q:Int) - k=n:=by omega
 have hqk:k≤q:=by omega
 have hqs:q≤s.size:=by omega
 rw[←hq] at KR;by_cases h14:n≤14
 ·rw[decide_eq_true h14,if_pos rfl] at hR
  have HR:=zz hR;have h14':¬ (14:Int)<(q:Int) - k:=by omega
  clear hR h34 hd hl h36 h45 hrun hq hw hlow hE hqn;go_enter Tryz.func33,Tryz.ntmps33;go_wp2_with (first | (go_at_call 63;((with_reducible refine(KL.out _).mono ?_));rintro e w' ⟨rfl,rfl⟩) | (go_at_call 64;((with_reducible refine(KR.out _).mono ?_));rintro e w' ⟨rfl,rfl⟩));rw[HR.out];exact bodyPost_ret (v:= .tuple #[.agg #[iI 1,.string (s.extract k q),oZ,(),k],q,oZ,oZ]) (by simp[results,Tryz.results33,go_sem]) rfl (z3a HE.out (bR.alloc nR _) HQ.out)
 ·rw[decide_eq_false h14,if_neg (by decide)] at hR
  have HR:=zz hR;have h14':(14:Int)<(q:Int) - k:=by omega
  clear hR h34 hd hl h36 h45 hrun hq hw hlow hE hqn;go_enter Tryz.func33,Tryz.ntmps33;go_wp2_with (first | (go_at_call 63;((with_reducible refine(KL.out _).mono ?_));rintro e w' ⟨rfl,rfl⟩) | (go_at_call 64;((with_reducible refine(KR.out _).mono ?_));rintro e w' ⟨rfl,rfl⟩));rw[HR.out];exact bodyPost_ret (v:= .tuple #[.agg #[oZ,oS,oZ,(),oZ],oZ,k,iI 1]) (by simp[results,Tryz.results33,go_sem]) rfl (z34 (bR.alloc nR _) 1)
theorem x38 (s:BA) (k:Nat) (hk:k<s.size) (hs:s.size≤4000) (hd:isDig s[k]=true) (w:World):
  Cz 33 #[s,k] w (PostO w k (tokR (s.data.toList.drop k))):=by
 have hdl:∀ c:UInt8,isDig c=true→c≠34∧isLow c=false:=z5c _ (by decide+kernel);obtain⟨h34,hl⟩:=hdl _ hd
 have hR:tokR (s.data.toList.drop k)=numT (s.data.toList.drop k):=by
  rw[z0h s k hk];unfold tokR;dsimp only;rw[if_neg h34,if_pos hd]
 rw[hR,z8w];have KR:=zz fun w=>x1s s k (by omega) (by omega) w
 have hrun:=z1w isDig (s.data.toList.drop k);have hall:=z6h isDig (s.data.toList.drop k);have h0:0<runL isDig (s.data.toList.drop k):=by rw[z2w isDig s k hk,if_pos hd];omega
 rw[List.length_drop,z0d] at hrun;generalize runL isDig (s.data.toList.drop k)=n at KR hrun hall h0 ⊢
 have hx:(s.extract k (k+n)).size≤4000:=by
  rw[←z0d,z1g,List.length_take,List.length_drop,z0d];omega
 have hne:(s.data.toList.drop k).take n≠[]:=by
  intro e;have:=congrArg List.length e;rw[List.length_take,List.length_drop,z0d,List.length_nil] at this;omega
 have hsp:=y1w _ hall hne;obtain⟨n0,n1,n2⟩:=z4a ((s.data.toList.drop k).take n);rw[←z1g] at hsp;have KP:=zz fun w=>y23 _ hx _ _ hsp w
 rw[z1g] at KP;generalize numR ((s.data.toList.drop k).take n)=R at KP n0 n1 n2 ⊢;obtain⟨v,x⟩:=R;dsimp only at KP n0 n1 n2 ⊢;have hdn:48≤(s[k].toNat:Int)∧(s[k].toNat:Int)≤57:=by unfold isDig at hd;exact of_decide_eq_true hd
 obtain⟨d1,d2⟩:=hdn;have KL:=zz fun w=>z2g s[k] w
 rw[hl] at KL;obtain⟨q,hq⟩:∃ q,q=k+n:=⟨_,rfl⟩;have HQ:=zz hq;rw[←hq] at KR KP;have q1:k≤q:=by omega
 have q2:q≤s.size:=by omega
 clear hsp hne hx hall hd hq hrun h0 hR h34 hl hdl;by_cases hx0:x=0
 ·subst hx0
  rw[if_pos rfl];go_enter Tryz.func33,Tryz.ntmps33;go_wp2_with (first | (go_at_call 63;((with_reducible refine(KL.out _).mono ?_));rintro e w' ⟨rfl,rfl⟩) | (go_at_call 64;((with_reducible refine(KR.out _).mono ?_));rintro e w' ⟨rfl,rfl⟩) | (go_at_call 65;((with_reducible refine(KP.out _).mono ?_));rintro e w' ⟨rfl,rfl⟩));refine bodyPost_ret (v:= .tuple #[tokV ⟨2,[],v,[],k⟩ (.slice none 0 0),q,oZ,oZ]) (by simp[results,Tryz.results33,go_sem,tokV]) rfl ⟨_,_,?_,World.ownsRow_nil _ _ _ _,bR.alloc nR _,fun t' q h=>by injection h with h _;subst h;rfl⟩;rw[HQ.out];rfl
 ·rw[if_neg hx0]
  have hb0:(x != 0)=true:=by simpa using hx0
  clear hx0;go_enter Tryz.func33,Tryz.ntmps33;go_wp2_with (first | (go_at_call 63;((with_reducible refine(KL.out _).mono ?_));rintro e w' ⟨rfl,rfl⟩) | (go_at_call 64;((with_reducible refine(KR.out _).mono ?_));rintro e w' ⟨rfl,rfl⟩) | (go_at_call 65;((with_reducible refine(KP.out _).mono ?_));rintro e w' ⟨rfl,rfl⟩));exact bodyPost_ret (v:= .tuple #[tokV ⟨0,[],0,[],0⟩ (.slice none 0 0),oZ,k,x]) (by simp[results,Tryz.results33,go_sem,tokV]) rfl ⟨_,_,rfl,World.ownsRow_nil _ _ _ _,bR.alloc nR _,fun t' q h=>by cases h⟩
theorem x1e (s:BA) (k:Nat) (hk:k<s.size) (hs:s.size≤4000) (h34:s[k]=34) (w:World):
  Cz 33 #[s,k] w (PostO w k (tokR (s.data.toList.drop k))):=by
 have hR:tokR (s.data.toList.drop k)=textA (parse (s.data.toList.drop k)):=by
  rw[z0h s k hk];unfold tokR;dsimp only;rw[if_pos h34];rfl
 rw[hR];have hl:isLow s[k]=false:=by rw[h34];decide
 have KP:=zz fun w=>y5m (s.extract k s.size) (by rw[ByteArray.size_extract];omega) w
 rw[y49] at KP;have hbd:=(z6l (s.data.toList.drop k)).1;rw[List.length_drop,z0d] at hbd;generalize parse (s.data.toList.drop k)=R at KP hbd ⊢;obtain⟨o,q⟩:=R;dsimp only at hbd
 have KP:Hid (∀ w,Cz 66 #[.string (s.extract k s.size)] w fun e w'=>∃ A c,e= .returned (.tuple #[.slice A (outOf o).length c,q,iI (errOf o)])∧OwnP w.heap.size w' (.slice A (outOf o).length c) (outOf o)∧Below w.heap.size w w'):=zz fun w=>(KP.out w).mono fun e w' ⟨v,he,ho,hb⟩=>by
  obtain⟨A,c,rfl,_⟩:=z27 (ps:=outOf o) ho;exact⟨A,c,he,ho,hb⟩
 have KL:=zz fun w=>z2g s[k] w
 rw[hl] at KL;have b34:((s[k].toNat:Int)==34)=true:=z08 (n:=34) h34 (by omega);have b48:(s[k].toNat:Int)<48:=by rw[h34];decide
 clear hR h34 hl
 cases o with
 | none=>
   go_enter Tryz.func33,Tryz.ntmps33;go_wp2_with (first | (go_at_call 63;((with_reducible refine(KL.out _).mono ?_));rintro e w' ⟨rfl,rfl⟩) | (go_at_call 66;((with_reducible refine(KP.out _).mono ?_));rintro e w' ⟨A,c,rfl,ho,hb⟩;obtain⟨hc,hfz⟩:=bcell hb;have hz:=z1l hb;have HB:=zz hb;clear hb ho));refine bodyPost_ret (v:= .tuple #[tokV ⟨0,[],0,[],0⟩ (.slice none 0 0),oZ,iI ((k:Int)+q),iI 1]) (by simp[results,Tryz.results33,go_sem,hc,tokV]) rfl ⟨⟨0,[],0,[],0⟩,(),?_,World.ownsRow_nil _ _ _ _,z1b HB.out _ _ _ _ _,fun t' q h=>by cases h⟩
   rfl
 | some ps=>
   go_enter Tryz.func33,Tryz.ntmps33;go_wp2_with (first | (go_at_call 63;((with_reducible refine(KL.out _).mono ?_));rintro e w' ⟨rfl,rfl⟩) | (go_at_call 66;((with_reducible refine(KP.out _).mono ?_));rintro e w' ⟨A,c,rfl,ho,hb⟩;obtain⟨hc,hfz⟩:=bcell hb;have hz:=z1l hb;have HB:=zz hb;have HO:=zz ho;clear hb ho));refine bodyPost_ret (v:= .tuple #[tokV ⟨3,[],0,ps,k⟩ (.slice A ps.length c),iI ((k:Int)+q),oZ,oZ]) (by simp[results,Tryz.results33,go_sem,hc,tokV,outOf]) rfl ⟨⟨3,[],0,ps,k⟩,.slice A ps.length c,?_,z98 HO.out _ _ _ _ _,z1b HB.out _ _ _ _ _,fun t' q' h=>?_⟩
   ·rfl
   ·injection h with h _;subst h;rfl
theorem x37 (s:BA) (k:Nat) (hk:k<s.size) (hs:s.size≤4000) (h36:s[k]=36) (w:World):
  Cz 33 #[s,k] w (PostO w k (tokR (s.data.toList.drop k))):=by
 have hd:isDig s[k]=false:=by rw[h36];decide
 have hl:isLow s[k]=false:=by rw[h36];decide
 obtain⟨R,hR⟩:∃ R,R=tokR (s.data.toList.drop k):=⟨_,rfl⟩;rw[←hR]
 replace hR:R=wordR 6 ((s.data.toList.drop (k+1)).take (runL isIn (s.data.toList.drop (k+1)))) (runL isIn (s.data.toList.drop (k+1))+1):=by
  rw[hR]
  conv=>lhs;rw[z0h s k hk]
  unfold tokR;dsimp only;rw[if_neg (by rw[h36];decide),if_neg (by rw[hd];decide),if_neg (by rw[hl];decide),if_pos h36]
 have KR:=zz fun w=>y9t s (k+1) (by omega) (by omega) w
 have hrun:=z1w isIn (s.data.toList.drop (k+1));rw[List.length_drop,z0d] at hrun;generalize runL isIn (s.data.toList.drop (k+1))=n at KR hrun hR;obtain⟨q,hq⟩:∃ q,q=k+1+n:=⟨_,rfl⟩
 have hx:(s.extract (k+1) (k+1+n)).size≤4611686018427387904:=by
  rw[←z0d,z1g,List.length_take,List.length_drop,z0d];omega
 have KN:=zz fun w=>z45 (s.extract (k+1) (k+1+n)) hx w
 rw[z1g] at KN;unfold wordR at hR;rw[x5k] at hR;have KR:Hid (∀ w,Cz 64 #[s,iI ((k:Int)+1),.bool false] w fun e w'=>e= .returned (.int .i64 ((k+1+n:Nat):Int))∧w=w'):=zz fun w=>KR.out w
 have hE:s.extract (k+1) q=s.extract (k+1) (k+1+n):=by rw[hq]
 have HE:=zz hE;have HQ:Hid (q=k+(n+1)):=zz (by omega);have q1:k+1≤q:=by omega
 have q2:q≤s.size:=by omega
 rw[←hq] at KR KN;have b34:((s[k].toNat:Int)==34)=false:=z0s (n:=34) (by rw[h36];decide) (by omega);have b36:((s[k].toNat:Int)==36)=true:=z08 (n:=36) h36 (by omega);have b48:(s[k].toNat:Int)<48:=by rw[h36];decide
 have KL:=zz fun w=>z2g s[k] w
 rw[hl] at KL;by_cases hm:isName ((s.data.toList.drop (k+1)).take n)=true
 ·rw[hm] at hR KN
  rw[if_pos rfl] at hR;have HR:=zz hR;clear hR hd hl h36 hrun hq hm hE hx;go_enter Tryz.func33,Tryz.ntmps33;go_wp2_with (first | (go_at_call 63;((with_reducible refine(KL.out _).mono ?_));rintro e w' ⟨rfl,rfl⟩) | (go_at_call 64;((with_reducible refine(KR.out _).mono ?_));rintro e w' ⟨rfl,rfl⟩) | (go_at_call 67;((with_reducible refine(KN.out _).mono ?_));rintro e w' ⟨rfl,rfl⟩));rw[HR.out];exact bodyPost_ret (v:= .tuple #[.agg #[iI 6,.string (s.extract (k+1) q),oZ,(),k],q,oZ,oZ]) (by simp[results,Tryz.results33,go_sem]) rfl (z3a HE.out (bR.alloc nR _) HQ.out)
 ·rw[Bool.eq_false_iff.2 hm] at hR KN
  rw[if_neg (by decide)] at hR;have HR:=zz hR;clear hR hd hl h36 hrun hq hm hE hx;go_enter Tryz.func33,Tryz.ntmps33;go_wp2_with (first | (go_at_call 63;((with_reducible refine(KL.out _).mono ?_));rintro e w' ⟨rfl,rfl⟩) | (go_at_call 64;((with_reducible refine(KR.out _).mono ?_));rintro e w' ⟨rfl,rfl⟩) | (go_at_call 67;((with_reducible refine(KN.out _).mono ?_));rintro e w' ⟨rfl,rfl⟩));rw[HR.out];exact bodyPost_ret (v:= .tuple #[.agg #[oZ,oS,oZ,(),oZ],oZ,k,iI 1]) (by simp[results,Tryz.results33,go_sem]) rfl (z34 (bR.alloc nR _) 1)
theorem x2h (s:BA) (k:Nat) (hk:k<s.size) (hs:s.size≤4000) (h45:s[k]=45) (hlow:lowHead (s.data.toList.drop (k+1))=true) (w:World):
  Cz 33 #[s,k] w (PostO w k (tokR (s.data.toList.drop k))):=by
 have hd:isDig s[k]=false:=by rw[h45];decide
 have hl:isLow s[k]=false:=by rw[h45];decide
 obtain⟨R,hR⟩:∃ R,R=tokR (s.data.toList.drop k):=⟨_,rfl⟩;rw[←hR]
 replace hR:R=wordR 5 ((s.data.toList.drop (k+1)).take (runL isLow (s.data.toList.drop (k+1)))) (runL isLow (s.data.toList.drop (k+1))+1):=by
  rw[hR]
  conv=>lhs;rw[z0h s k hk]
  unfold tokR;dsimp only;rw[if_neg (by rw[h45];decide),if_neg (by rw[hd];decide),if_neg (by rw[hl];decide),if_neg (by rw[h45];decide),if_pos ⟨h45,hlow⟩]
 have hpos:0<runL isLow (s.data.toList.drop (k+1)):=by rw[z7x] at hlow;exact of_decide_eq_true hlow
 have KR:=zz fun w=>z65 s (k+1) (by omega) (by omega) w
 have hrun:=z1w isLow (s.data.toList.drop (k+1));rw[List.length_drop,z0d] at hrun;generalize runL isLow (s.data.toList.drop (k+1))=n at KR hrun hR hpos;obtain⟨q,hq⟩:∃ q,q=k+1+n:=⟨_,rfl⟩
 have hx:(s.extract (k+1) (k+1+n)).size≤4611686018427387904:=by
  rw[←z0d,z1g,List.length_take,List.length_drop,z0d];omega
 have KN:=zz fun w=>y86 (s.extract (k+1) (k+1+n)) w
 rw[z1g] at KN;unfold wordR at hR;rw[x5f] at hR;have KR:Hid (∀ w,Cz 68 #[s,iI ((k:Int)+1)] w fun e w'=>e= .returned (.int .i64 ((k+1+n:Nat):Int))∧w=w'):=zz fun w=>KR.out w
 have hE:s.extract (k+1) q=s.extract (k+1) (k+1+n):=by rw[hq]
 have HE:=zz hE;have HQ:Hid (q=k+(n+1)):=zz (by omega);have q1:k+1<q:=by omega
 have q2:q≤s.size:=by omega
 rw[←hq] at KR KN;have b34:((s[k].toNat:Int)==34)=false:=z0s (n:=34) (by rw[h45];decide) (by omega);have b36:((s[k].toNat:Int)==36)=false:=z0s (n:=36) (by rw[h45];decide) (by omega);have b45:((s[k].toNat:Int)==45)=true:=z08 (n:=45) h45 (by omega);have b48:(s[k].toNat:Int)<48:=by rw[h45];decide
 have KL:=zz fun w=>z2g s[k] w
 rw[hl] at KL;by_cases hm:isFlagL ((s.data.toList.drop (k+1)).take n)=true
 ·rw[hm] at hR KN
  rw[if_pos rfl] at hR;have HR:=zz hR;clear hR hd hl h45 hrun hq hm hE hx hlow hpos;go_enter Tryz.func33,Tryz.ntmps33;go_wp2_with (first | (go_at_call 63;((with_reducible refine(KL.out _).mono ?_));rintro e w' ⟨rfl,rfl⟩) | (go_at_call 68;((with_reducible refine(KR.out _).mono ?_));rintro e w' ⟨rfl,rfl⟩) | (go_at_call 69;((with_reducible refine(KN.out _).mono ?_));rintro e w' ⟨rfl,rfl⟩));rw[HR.out];exact bodyPost_ret (v:= .tuple #[.agg #[iI 5,.string (s.extract (k+1) q),oZ,(),k],q,oZ,oZ]) (by simp[results,Tryz.results33,go_sem]) rfl (z3a HE.out (bR.alloc nR _) HQ.out)
 ·rw[Bool.eq_false_iff.2 hm] at hR KN
  rw[if_neg (by decide)] at hR;have HR:=zz hR;clear hR hd hl h45 hrun hq hm hE hx hlow hpos;go_enter Tryz.func33,Tryz.ntmps33;go_wp2_with (first | (go_at_call 63;((with_reducible refine(KL.out _).mono ?_));rintro e w' ⟨rfl,rfl⟩) | (go_at_call 68;((with_reducible refine(KR.out _).mono ?_));rintro e w' ⟨rfl,rfl⟩) | (go_at_call 69;((with_reducible refine(KN.out _).mono ?_));rintro e w' ⟨rfl,rfl⟩));rw[HR.out];exact bodyPost_ret (v:= .tuple #[.agg #[oZ,oS,oZ,(),oZ],oZ,k,iI 1]) (by simp[results,Tryz.results33,go_sem]) rfl (z34 (bR.alloc nR _) 1)
def sgFind:List Bs→Bs→Nat
 | [],_=>0
 | x::r,l=>if l.take x.length=x then x.length else sgFind r l
theorem z5w (n:Nat) (hn:0<n) (l:Bs):∀ L:List Bs,(∀ x∈L,x.length=n)→sgFind L l=if L.contains (l.take n) then n else 0
 | [],_=>rfl
 | x::r,h=>by
   have hx:=h x (by simp);have ih:=z5w n hn l r (fun y hy=>h y (by simp[hy]));unfold sgFind;rw[hx,ih,List.contains_cons];by_cases e:l.take n=x
   ·rw[if_pos e,if_pos (by simp[e])]
   ·rw[if_neg e]
    have:(l.take n==x)=false:=by simpa using e
    rw[this,Bool.false_or]
theorem z5h (l:Bs):∀ A B:List Bs,(∀ x∈A,0<x.length)→sgFind (A++B) l=if 0<sgFind A l then sgFind A l else sgFind B l
 | [],B,_=>rfl
 | x::r,B,h=>by
   have hx:=h x (by simp);have ih:=z5h l r B (fun y hy=>h y (by simp[hy]));have e1:∀ r,sgFind (x::r) l=if l.take x.length=x then x.length else sgFind r l:=fun _=>rfl
   rw[List.cons_append,e1,e1];by_cases e:l.take x.length=x
   ·rw[if_pos e,if_pos e,if_pos hx]
   ·rw[if_neg e,if_neg e,ih]
def sgn2:List Bs:=[[60,61],[62,61],[61,61],[33,61],[38,38],[124,124]]
def sgn1:List Bs:=[[123],[125],[40],[41],[43],[45],[42],[47],[37],[60],[62],[33]]
theorem y8q:sgns=sgn2++sgn1:=rfl
theorem z3v {L:List Bs} {n:Nat} (h:∀ x∈L,x.length=n) {w:Bs} (hw:¬ w.length=n):L.contains w=false:=by
 rw[Bool.eq_false_iff];intro hc;exact hw (h w (List.contains_iff_mem.1 hc))
theorem z6c (l:Bs):sgFind sgns l=signL l:=by
 have h2:∀ x∈sgn2,x.length=2:=by decide
 have h1:∀ x∈sgn1,x.length=1:=by decide
 rw[y8q,z5h l _ _ (by decide),z5w 2 (by decide) l _ h2,z5w 1 (by decide) l _ h1];have hs:∀ w:Bs,isSignL w=(sgn2.contains w || sgn1.contains w):=fun w=>by unfold isSignL;rw[y8q,List.contains_append]
 unfold signL;rw[hs,hs]
 rcases l with _ | ⟨a,_ | ⟨b,r⟩⟩
 ·decide
 ·have t2:([a]:Bs).take 2=[a]:=rfl
  have t1:([a]:Bs).take 1=[a]:=rfl;rw[t2,t1,z3v h2 (w:=[a]) (by simp)];simp
 ·have t2:(a::b::r:Bs).take 2=[a,b]:=rfl
  have t1:(a::b::r:Bs).take 1=[a]:=rfl;rw[t2,t1,z3v h1 (w:=[a,b]) (by simp),z3v h2 (w:=[a]) (by simp),Bool.or_false,Bool.false_or];by_cases e:sgn2.contains [a,b]=true
  ·rw[if_pos e,if_pos (by decide),if_pos e];rfl
  ·rw[if_neg e,if_neg (by decide),if_neg e]
def sgnA:Array Value:=#[.string ⟨#[60,61]⟩,.string ⟨#[62,61]⟩,.string ⟨#[61,61]⟩,.string ⟨#[33,61]⟩,.string ⟨#[38,38]⟩,.string ⟨#[124,124]⟩,.string ⟨#[123]⟩,.string ⟨#[125]⟩,.string ⟨#[40]⟩,.string ⟨#[41]⟩,.string ⟨#[43]⟩,.string ⟨#[45]⟩,.string ⟨#[42]⟩,.string ⟨#[47]⟩,.string ⟨#[37]⟩,.string ⟨#[60]⟩,.string ⟨#[62]⟩,.string ⟨#[33]⟩]
theorem y2a (w:World):Cz 70 #[] w fun e w'=>e= .returned (.slice (some ⟨w.heap.size,0,none⟩) 18 18)∧w'=w.alloc (.cells sgnA 9):=by
 go_enter Tryz.func70,Tryz.ntmps70;go_wp2;go_ret;exact⟨rfl,rfl⟩
theorem x4i (i:Nat) (x:Bs) (h:sgns[i]?=some x):sgnA[i]?=some (.string ⟨x.toArray⟩):=by
 have e:sgnA=(sgns.map fun x=>Value.string ⟨x.toArray⟩).toArray:=rfl;rw[e,List.getElem?_toArray,List.getElem?_map,h];rfl
theorem y4p:sgns.length=18:=rfl
theorem z43 {i:Nat} {x:Bs} (h:sgns[i]?=some x):isSignL x=true:=by unfold isSignL;exact List.contains_iff_mem.2 (List.mem_of_getElem? h)
theorem z74 {i:Nat} {x:Bs} (h:sgns[i]?=some x) (l:Bs):sgFind (sgns.drop i) l=if l.take x.length=x then x.length else sgFind (sgns.drop (i+1)) l:=by
 obtain⟨hi,e⟩:=List.getElem?_eq_some_iff.1 h;rw[List.drop_eq_getElem_cons hi,e];rfl
abbrev boxS (w:World):World:=(w.alloc (.cells #[oZ,oS,oZ,(),oZ] 53)).alloc (.cells sgnA 9)
theorem y8u (w:World) {j:Nat} {x:Bs} (h:sgns[j]?=some x):(boxS w).cell? ⟨w.heap.size+1,j,none⟩=some (.string ⟨x.toArray⟩):=by
 have e:(w.alloc (.cells #[oZ,oS,oZ,(),oZ] 53)).heap.size=w.heap.size+1:=by simp
 rw[←e];have:=z0k (w.alloc (.cells #[oZ,oS,oZ,(),oZ] 53)) 9 sgnA j _ (by rw[Array.getElem?_toList];exact x4i j x h);have ea:∀ b j:Nat,(⟨b,0,none⟩:Addr).add j=⟨b,j,none⟩:=fun b j=>by unfold Addr.add;split <;> simp_all
 rwa [ea] at this
theorem z6v (w:World) (m:Nat) (u0 u1 u2 u3 u4:Value):Below w.heap.size w (put5 ((boxS w).drewN m) w.heap.size u0 u1 u2 u3 u4):=
 (((((z0e ((bR.alloc nR _).alloc (by simp) _) m).setCell nR u0).setCell nR u1).setCell nR u2).setCell nR u3).setCell nR u4
theorem x1y (s:BA) (k:Nat) (hk:k<s.size) (hs:s.size≤4000) (h34:s[k]≠34) (hd:isDig s[k]=false) (hl:isLow s[k]=false) (h36:s[k]≠36) (h45:s[k]≠45) (w:World):
  Cz 33 #[s,k] w (PostO w k (tokR (s.data.toList.drop k))):=by
 have hno:¬ (s[k]=45∧lowHead (s.data.toList.drop (k+1))=true):=fun h=>h45 h.1
 obtain⟨R,hR⟩:∃ R,R=tokR (s.data.toList.drop k):=⟨_,rfl⟩;rw[←hR]
 replace hR:R=wordR 4 ((s.data.toList.drop k).take (signL (s.data.toList.drop k))) (signL (s.data.toList.drop k)):=by
  rw[hR]
  conv=>lhs;rw[z0h s k hk]
  unfold tokR;dsimp only;rw[if_neg h34,if_neg (by rw[hd];decide),if_neg (by rw[hl];decide),if_neg h36,if_neg hno,←z0h s k hk]
 have hfs:=z6c (s.data.toList.drop k);unfold wordR at hR;rw[x24] at hR;have HR:=zz hR;have HF:=zz hfs
 have hdn:(s[k].toNat:Int)<48∨(48≤(s[k].toNat:Int)∧57<(s[k].toNat:Int)):=by
  unfold isDig at hd;have:=of_decide_eq_false hd;omega
 have b34:((s[k].toNat:Int)==34)=false:=z0s (n:=34) h34 (by omega);have b36:((s[k].toNat:Int)==36)=false:=z0s (n:=36) h36 (by omega);have b45:((s[k].toNat:Int)==45)=false:=z0s (n:=45) h45 (by omega);have KL:=zz fun w=>z2g s[k] w
 rw[hl] at KL;have KS:=zz y2a;clear hR hfs h34 hd hl h36 h45 hno
 rcases hdn with d1 | ⟨d1,d2⟩
 all_goals
  go_enter Tryz.func33,Tryz.ntmps33;go_wp2_with (first | (go_at_call 63;((with_reducible refine(KL.out _).mono ?_));rintro e w' ⟨rfl,rfl⟩) | (go_at_call 70;((with_reducible refine(KS.out _).mono ?_));rintro e w' ⟨rfl,rfl⟩))
  go_loopw [19] (fun i wr=>∃ j m:Nat,j≤18∧i= .int .i64 j∧signL (s.data.toList.drop k)=sgFind (sgns.drop j) (s.data.toList.drop k)∧wr=(boxS w).drewN m) (fun i _=>18 - (intOf i).toNat)
  case atStart=>exact⟨0,0,by omega,rfl,HF.out.symm,rfl⟩
  case round=>
   obtain⟨j,m,hj,rfl,hsg,rfl⟩:=hrel;have HS:=zz hsg;clear hsg;by_cases a:j<18
   ·obtain⟨x,hx⟩:∃ x,sgns[j]?=some x:=⟨_,List.getElem?_eq_getElem (by rw[y4p];exact a)⟩
    have c0:=y8u w hx;obtain⟨X,hX⟩:∃ X:BA,X=⟨x.toArray⟩:=⟨_,rfl⟩;rw[←hX] at c0;have hXl:=y0o (z43 hx);have hXs:X.size=x.length:=by rw[←z0d,hX]
    rw[←hXs] at hXl;obtain⟨x1,x2⟩:=hXl;have hst:=z74 hx (s.data.toList.drop k);have hxd:X.toList=x:=by rw[toList_data,hX]
    have hed:(s.extract k (k+X.size)).toList=(s.data.toList.drop k).take x.length:=by rw[toList_data,z1g,hXs]
    have HX:=zz hx;have HXX:=zz hX;have HXs:=zz hXs;by_cases hf:k+X.size≤s.size
    ·have hf1:(k:Int)+X.size≤s.size:=by omega
     have hf2:(k:Int)≤(k:Int)+X.size:=by omega
     by_cases hm:(s.data.toList.drop k).take x.length=x
     ·have hb:((s.extract k (k+X.size)).toList==X.toList)=true:=by rw[hed,hxd,hm];simp
      have HR2:Hid (R= .ok ⟨4,(s.data.toList.drop k).take X.size,0,[],0⟩ X.size):=by
       apply Lib.hid;rw[HR.out,HS.out,hst,if_pos hm,hXs,hm,z43 hx,if_pos rfl]
      have HE:Hid (X=s.extract k (k+X.size)):=by
       apply Lib.hid;rw[y5e,hXs,hm,hX]
      clear hx hX hXs hst hxd hed hm;go_wp2;go_quiet (fail);go_wp2;rw[HR2.out];exact bodyPost_ret (v:= .tuple #[.agg #[iI 4,X,oZ,(),k],iI ((k:Int)+X.size),oZ,oZ]) (by simp[results,Tryz.results33,go_sem]) rfl (z3a (p:=k+X.size) HE.out (z6v w _ _ _ _ _ _) rfl)
     ·have hb:((s.extract k (k+X.size)).toList==X.toList)=false:=by rw[hed,hxd];simpa using hm
      have HS2:Hid (signL (s.data.toList.drop k)=sgFind (sgns.drop (j+1)) (s.data.toList.drop k)):=by
       apply Lib.hid;rw[HS.out,hst,if_neg hm]
      clear hx hX hXs hst hxd hed hm;go_wp2;go_quiet (fail);go_wp2
      go_roundw
      case rel=>exact⟨j+1,_,by omega,by go_num,HS2.out,rfl⟩
      case measure=>simp[intOf];omega
    ·have hm:¬ (s.data.toList.drop k).take x.length=x:=by
      intro e;have:=congrArg List.length e;rw[List.length_take,List.length_drop,z0d] at this;omega
     have hf1:decide ((k:Int)+X.size≤s.size)=false:=by simp;omega
     have HS2:Hid (signL (s.data.toList.drop k)=sgFind (sgns.drop (j+1)) (s.data.toList.drop k)):=by
      apply Lib.hid;rw[HS.out,hst,if_neg hm]
     clear hx hX hXs hst hxd hed hm;go_wp2;go_quiet (fail);go_wp2
     go_roundw
     case rel=>exact⟨j+1,_,by omega,by go_num,HS2.out,rfl⟩
     case measure=>simp[intOf];omega
   ·have HR2:Hid (R= .bad 0 1):=by
     apply Lib.hid;obtain rfl:j=18:=by omega
     have e:signL (s.data.toList.drop k)=0:=HS.out;rw[HR.out,e,List.take_zero,y0t,if_neg (by decide)]
    go_wp2;rw[HR2.out];exact bodyPost_ret (v:= .tuple #[.agg #[oZ,oS,oZ,(),oZ],oZ,k,iI 1]) (by simp[results,Tryz.results33,go_sem]) rfl (z34 (z6v w _ _ _ _ _ _) 1)
theorem x0s (s:BA) (k:Nat) (hk:k<s.size) (hs:s.size≤4000) (h45:s[k]=45) (hlow:lowHead (s.data.toList.drop (k+1))=false) (w:World):
  Cz 33 #[s,k] w (PostO w k (tokR (s.data.toList.drop k))):=by
 have h34:s[k]≠34:=by rw[h45];decide
 have h36:s[k]≠36:=by rw[h45];decide
 have hd:isDig s[k]=false:=by rw[h45];decide
 have hl:isLow s[k]=false:=by rw[h45];decide
 have hno:¬ (s[k]=45∧lowHead (s.data.toList.drop (k+1))=true):=fun h=>by rw[hlow] at h;cases h.2
 have KR:Hid (∀ w,Cz 68 #[s,iI ((k:Int)+1)] w fun e w'=>e= .returned (.int .i64 ((k:Int)+1))∧w=w'):=zz fun w=>by
  have h0:runL isLow (s.data.toList.drop (k+1))=0:=by rw[z7x] at hlow;have:=of_decide_eq_false hlow;omega
  have:=z65 s (k+1) (by omega) (by omega) w;rw[h0] at this;exact this
 obtain⟨R,hR⟩:∃ R,R=tokR (s.data.toList.drop k):=⟨_,rfl⟩;rw[←hR]
 replace hR:R=wordR 4 ((s.data.toList.drop k).take (signL (s.data.toList.drop k))) (signL (s.data.toList.drop k)):=by
  rw[hR]
  conv=>lhs;rw[z0h s k hk]
  unfold tokR;dsimp only;rw[if_neg h34,if_neg (by rw[hd];decide),if_neg (by rw[hl];decide),if_neg h36,if_neg hno,←z0h s k hk]
 have hfs:=z6c (s.data.toList.drop k);unfold wordR at hR;rw[x24] at hR;have HR:=zz hR;have HF:=zz hfs;have d1:(s[k].toNat:Int)<48:=by rw[h45];decide
 have b34:((s[k].toNat:Int)==34)=false:=z0s (n:=34) h34 (by omega);have b36:((s[k].toNat:Int)==36)=false:=z0s (n:=36) h36 (by omega);have b45:((s[k].toNat:Int)==45)=true:=z08 (n:=45) h45 (by omega);have KL:=zz fun w=>z2g s[k] w
 rw[hl] at KL;have KS:=zz y2a;clear hR hfs h34 hd hl h36 h45 hno hlow
 ·go_enter Tryz.func33,Tryz.ntmps33
  go_wp2_with (first | (go_at_call 63;((with_reducible refine(KL.out _).mono ?_));rintro e w' ⟨rfl,rfl⟩) | (go_at_call 68;((with_reducible refine(KR.out _).mono ?_));rintro e w' ⟨rfl,rfl⟩) | (go_at_call 70;((with_reducible refine(KS.out _).mono ?_));rintro e w' ⟨rfl,rfl⟩))
  go_loopw [19] (fun i wr=>∃ j m:Nat,j≤18∧i= .int .i64 j∧signL (s.data.toList.drop k)=sgFind (sgns.drop j) (s.data.toList.drop k)∧wr=(boxS w).drewN m) (fun i _=>18 - (intOf i).toNat)
  case atStart=>exact⟨0,0,by omega,rfl,HF.out.symm,rfl⟩
  case round=>
   obtain⟨j,m,hj,rfl,hsg,rfl⟩:=hrel;have HS:=zz hsg;clear hsg;by_cases a:j<18
   ·obtain⟨x,hx⟩:∃ x,sgns[j]?=some x:=⟨_,List.getElem?_eq_getElem (by rw[y4p];exact a)⟩
    have c0:=y8u w hx;obtain⟨X,hX⟩:∃ X:BA,X=⟨x.toArray⟩:=⟨_,rfl⟩;rw[←hX] at c0;have hXl:=y0o (z43 hx);have hXs:X.size=x.length:=by rw[←z0d,hX]
    rw[←hXs] at hXl;obtain⟨x1,x2⟩:=hXl;have hst:=z74 hx (s.data.toList.drop k);have hxd:X.toList=x:=by rw[toList_data,hX]
    have hed:(s.extract k (k+X.size)).toList=(s.data.toList.drop k).take x.length:=by rw[toList_data,z1g,hXs]
    have HX:=zz hx;have HXX:=zz hX;have HXs:=zz hXs;by_cases hf:k+X.size≤s.size
    ·have hf1:(k:Int)+X.size≤s.size:=by omega
     have hf2:(k:Int)≤(k:Int)+X.size:=by omega
     by_cases hm:(s.data.toList.drop k).take x.length=x
     ·have hb:((s.extract k (k+X.size)).toList==X.toList)=true:=by rw[hed,hxd,hm];simp
      have HR2:Hid (R= .ok ⟨4,(s.data.toList.drop k).take X.size,0,[],0⟩ X.size):=by
       apply Lib.hid;rw[HR.out,HS.out,hst,if_pos hm,hXs,hm,z43 hx,if_pos rfl]
      have HE:Hid (X=s.extract k (k+X.size)):=by
       apply Lib.hid;rw[y5e,hXs,hm,hX]
      clear hx hX hXs hst hxd hed hm;go_wp2;go_quiet (fail);go_wp2;rw[HR2.out];exact bodyPost_ret (v:= .tuple #[.agg #[iI 4,X,oZ,(),k],iI ((k:Int)+X.size),oZ,oZ]) (by simp[results,Tryz.results33,go_sem]) rfl (z3a (p:=k+X.size) HE.out (z6v w _ _ _ _ _ _) rfl)
     ·have hb:((s.extract k (k+X.size)).toList==X.toList)=false:=by rw[hed,hxd];simpa using hm
      have HS2:Hid (signL (s.data.toList.drop k)=sgFind (sgns.drop (j+1)) (s.data.toList.drop k)):=by
       apply Lib.hid;rw[HS.out,hst,if_neg hm]
      clear hx hX hXs hst hxd hed hm;go_wp2;go_quiet (fail);go_wp2
      go_roundw
      case rel=>exact⟨j+1,_,by omega,by go_num,HS2.out,rfl⟩
      case measure=>simp[intOf];omega
    ·have hm:¬ (s.data.toList.drop k).take x.length=x:=by
      intro e;have:=congrArg List.length e;rw[List.length_take,List.length_drop,z0d] at this;omega
     have hf1:decide ((k:Int)+X.size≤s.size)=false:=by simp;omega
     have HS2:Hid (signL (s.data.toList.drop k)=sgFind (sgns.drop (j+1)) (s.data.toList.drop k)):=by
      apply Lib.hid;rw[HS.out,hst,if_neg hm]
     clear hx hX hXs hst hxd hed hm;go_wp2;go_quiet (fail);go_wp2
     go_roundw
     case rel=>exact⟨j+1,_,by omega,by go_num,HS2.out,rfl⟩
     case measure=>simp[intOf];omega
   ·have HR2:Hid (R= .bad 0 1):=by
     apply Lib.hid;obtain rfl:j=18:=by omega
     have e:signL (s.data.toList.drop k)=0:=HS.out;rw[HR.out,e,List.take_zero,y0t,if_neg (by decide)]
    go_wp2;rw[HR2.out];exact bodyPost_ret (v:= .tuple #[.agg #[oZ,oS,oZ,(),oZ],oZ,k,iI 1]) (by simp[results,Tryz.results33,go_sem]) rfl (z34 (z6v w _ _ _ _ _ _) 1)
theorem y72 (s:BA) (k:Nat) (hk:k<s.size) (hs:s.size≤4000) (w:World):
  Cz 33 #[s,k] w (PostO w k (tokR (s.data.toList.drop k))):=by
 by_cases h34:s[k]=34
 ·exact x1e s k hk hs h34 w
 ·by_cases hd:isDig s[k]=true
  ·exact x38 s k hk hs hd w
  ·by_cases hl:isLow s[k]=true
   ·exact x03 s k hk hs hl w
   ·by_cases h36:s[k]=36
    ·exact x37 s k hk hs h36 w
    ·by_cases h45:s[k]=45
     ·by_cases hx:lowHead (s.data.toList.drop (k+1))=true
      ·exact x2h s k hk hs h45 hx w
      ·exact x0s s k hk hs h45 (Bool.eq_false_iff.2 hx) w
     ·exact x1y s k hk hs h34 (Bool.eq_false_iff.2 hd) (Bool.eq_false_iff.2 hl) h36 h45 w
theorem y88 (s:BA) (k:Nat) (hk:k<s.size) (c:isBl s[k]=true):behind s.data.toList k=behind s.data.toList (k+1):=by
 unfold behind;rw[y0w s k hk c];omega
theorem y3v (s:BA) (k:Nat) (hk:k<s.size) (c:s[k]=35):behind s.data.toList k=behind s.data.toList (k+runL notNl (s.data.toList.drop k))∧0<runL notNl (s.data.toList.drop k):=by
 obtain⟨a,b⟩:=z7l s k hk c;exact⟨by unfold behind;rw[a];omega,b⟩
theorem y8c (s:BA) (k:Nat) (hk:k<s.size) (c:¬ isBl s[k]=true) (d:s[k]≠35):behind s.data.toList k=k:=by
 unfold behind;rw[y0v s k hk c d];rfl
theorem y6i (s:BA) (k:Nat) (hk:¬ k<s.size):behind s.data.toList k=k:=by
 unfold behind;rw[z87 s k hk];rfl
def LoopO (s:BA) (w0:World) (R:Option (List Tok) × Nat × Int) (v a:Value) (w:World):Prop:=
 ∃ (k:Nat) (l:List Tv),k≤s.size∧a= .int .i64 k∧goT s.data.toList (behind s.data.toList k) (l.map (·.1))=R∧Tks w0.heap.size w0 w v l∧l.length≤k
def OBad (w0:World) (p:Nat) (x:Int) (e:Ending) (w':World):Prop:=
 ∃ (t:Tok) (A:OA) (c:Nat),e= .returned (.tuple #[.agg #[t.kind,t.word,t.n,.slice A t.parts.length c,t.pl],oZ,p,x])∧Below w0.heap.size w0 w'
def OOk (w0:World) (p:Nat) (t:Tok) (e:Ending) (w':World):Prop:=
 ∃ (A:OA) (c:Nat),e= .returned (.tuple #[.agg #[t.kind,t.word,t.n,.slice A t.parts.length c,t.pl],p,oZ,oZ])∧OwnP w0.heap.size w' (.slice A t.parts.length c) t.parts∧Below w0.heap.size w0 w'
theorem one_b (s:BA) (k q:Nat) (x:Int) (hk:k<s.size) (hs:s.size≤4000) (h:tokR (s.data.toList.drop k)= .bad q x) (w:World):Cz 33 #[s,k] w (OBad w (k+q) x):=by
 have:=y72 s k hk hs w;rw[h] at this
 exact this.mono fun e w' ⟨t,v,he,ho,hb,_⟩=>by
  obtain⟨A,c,rfl,_⟩:=z27 (ps:=t.parts) ho;exact⟨t,A,c,he,hb⟩
theorem one_o (s:BA) (k q:Nat) (t:Tok) (hk:k<s.size) (hs:s.size≤4000) (h:tokR (s.data.toList.drop k)= .ok t q) (w:World):Cz 33 #[s,k] w (OOk w (k+q) (withPl t k)):=by
 have:=y72 s k hk hs w;rw[h] at this
 exact this.mono fun e w' ⟨t',v,he,ho,hb,ht⟩=>by
  obtain rfl:=ht t q rfl;obtain⟨A,c,rfl,_⟩:=z27 (ps:=(withPl t k).parts) ho;exact⟨A,c,he,ho,hb⟩
theorem y97 (s:BA) (hs:s.size≤4000) (w:World):Cz 18 #[s] w (PostT w (scan s.data.toList)):=by
 by_cases h2000:2000<s.size
 ·have hR:scan s.data.toList=(none,2000,2):=by unfold scan;rw[if_pos (by rw[z0d];exact h2000)]
  rw[hR];clear hR;go_enter Tryz.func18,Tryz.ntmps18;go_wp2
  go_ret3
  exact⟨_,[],rfl,Tks.nil w,rfl⟩
 ·obtain⟨R,hR⟩:∃ R,R=goT s.data.toList (behind s.data.toList 0) []:=⟨_,rfl⟩
  have hsc:scan s.data.toList=R:=by unfold scan;rw[if_neg (by rw[z0d];exact h2000),hR]
  rw[hsc];have HR:=zz hR.symm;obtain⟨i0,hi0,hz0,hz1,hz2⟩:=info_parts infoT;clear hR hsc;go_enter Tryz.func18,Tryz.ntmps18;go_wp2
  go_loopw [5,6] (fun v a wr=>LoopO s w R v a wr) (fun _ a _=>s.size - (intOf a).toNat)
  case atStart=>exact⟨0,[],by omega,rfl,HR.out,Tks.nil w,by simp⟩
  case round=>
   obtain⟨k,l,hk,rfl,hg,hT,hl⟩:=hrel;have HGk:=zz hg;have HT:=zz hT;clear hg hT;by_cases a:k<s.size
   ·by_cases cb:isBl s[k]=true
    ·have HX:Hid (goT s.data.toList (behind s.data.toList (k+1)) (l.map (·.1))=R):=zz (by rw[←HGk.out,y88 s k a cb])
     have hb:s[k]=32∨(s[k]≠32∧s[k]=9)∨(s[k]≠32∧s[k]≠9∧s[k]=10):=by
      have hx:∀ c:UInt8,isBl c=true→c=32∨(c≠32∧c=9)∨(c≠32∧c≠9∧c=10):=z5c _ (by decide+kernel);exact hx _ cb
     clear cb
     rcases hb with hb | ⟨hb1,hb⟩ | ⟨hb1,hb2,hb⟩
     ·have b1:((s[k].toNat:Int)==32)=true:=z08 (n:=32) hb (by omega)
      clear hb;go_wp2
      go_roundw
      case rel=>exact⟨k+1,l,by omega,by go_num,HX.out,HT.out,by omega⟩
      case measure=>simp[intOf];omega
     ·have b1:((s[k].toNat:Int)==32)=false:=z0s (n:=32) hb1 (by omega)
      have b2:((s[k].toNat:Int)==9)=true:=z08 (n:=9) hb (by omega);clear hb hb1;go_wp2
      go_roundw
      case rel=>exact⟨k+1,l,by omega,by go_num,HX.out,HT.out,by omega⟩
      case measure=>simp[intOf];omega
     ·have b1:((s[k].toNat:Int)==32)=false:=z0s (n:=32) hb1 (by omega)
      have b2:((s[k].toNat:Int)==9)=false:=z0s (n:=9) hb2 (by omega);have b3:((s[k].toNat:Int)==10)=true:=z08 (n:=10) hb (by omega);clear hb hb1 hb2;go_wp2
      go_roundw
      case rel=>exact⟨k+1,l,by omega,by go_num,HX.out,HT.out,by omega⟩
      case measure=>simp[intOf];omega
    ·have hb:s[k]≠32∧s[k]≠9∧s[k]≠10:=by
      have hx:∀ c:UInt8,¬ isBl c=true→c≠32∧c≠9∧c≠10:=z5c _ (by decide+kernel);exact hx _ cb
     obtain⟨hb1,hb2,hb3⟩:=hb;have b1:((s[k].toNat:Int)==32)=false:=z0s (n:=32) hb1 (by omega);have b2:((s[k].toNat:Int)==9)=false:=z0s (n:=9) hb2 (by omega);have b3:((s[k].toNat:Int)==10)=false:=z0s (n:=10) hb3 (by omega);clear hb1 hb2 hb3;by_cases ch:s[k]=35
     ·obtain⟨h1,h2⟩:=y3v s k a ch
      have HX:Hid (goT s.data.toList (behind s.data.toList (k+runL notNl (s.data.toList.drop k))) (l.map (·.1))=R):=zz (by rw[←HGk.out,h1]);have hrun:=z1w notNl (s.data.toList.drop k);rw[List.length_drop,z0d] at hrun;obtain⟨N,hN⟩:∃ N,N=k+runL notNl (s.data.toList.drop k):=⟨_,rfl⟩;rw[←hN] at HX;have n1:k<N:=by omega
      have n2:N≤s.size:=by omega
      have b35:((s[k].toNat:Int)==35)=true:=z08 (n:=35) ch (by omega);have HN:=zz hN;clear hN hrun h1 h2 ch cb;go_wp2
      go_loop [6] (fun a=>∃ j:Nat,k≤j∧j≤s.size∧a= .int .i64 j∧N=j+runL notNl (s.data.toList.drop j)) (fun a=>s.size - (intOf a).toNat)
      case atStart=>exact⟨k,by omega,by omega,rfl,HN.out⟩
      case round=>
       obtain⟨j,hkj,hj,rfl,hn⟩:=hrel;have HJ:=zz hn;clear hn;by_cases e:j<s.size
       ·have hr:=z2w notNl s j e
        by_cases c:notNl s[j]=true
        ·have HY:Hid (N=(j+1)+runL notNl (s.data.toList.drop (j+1))):=by apply Lib.hid;rw[HJ.out,hr,if_pos c];omega
         have c1:((s[j].toNat:Int) != 10)=true:=by unfold notNl at c;simpa using c
         clear hr c;go_wp2
         go_round
         case rel=>exact⟨j+1,by omega,by omega,by go_num,HY.out⟩
         case measure=>simp[intOf];omega
        ·have hjN:j=N:=by rw[HJ.out,hr,if_neg c];omega
         have c1:((s[j].toNat:Int) != 10)=false:=by unfold notNl at c;simpa using c
         clear hr c;subst hjN;go_wp2
         go_roundw
         case rel=>exact⟨_,l,n2,rfl,HX.out,HT.out,by omega⟩
         case measure=>simp[intOf];omega
       ·have hjN:j=N:=by rw[HJ.out,z2f _ _ _ e];omega
        subst hjN;go_wp2
        go_roundw
        case rel=>exact⟨_,l,n2,rfl,HX.out,HT.out,by omega⟩
        case measure=>simp[intOf];omega
     ·have b35:((s[k].toNat:Int)==35)=false:=z0s (n:=35) ch (by omega)
      have hbe:=y8c s k a cb ch;have hgo:=HGk.out;rw[hbe] at hgo;clear ch cb hbe
      rcases hp:tokR (s.data.toList.drop k) with ⟨q,x⟩ | ⟨t,q⟩
      ·have HX:Hid (R=(none,k+q,x)):=zz (by rw[←hgo,z9v _ (by rw[z0d];exact a) hp])
       have K:=zz (one_b s k q x a hs hp wr)
       have hx:(x != 0)=true:=by
        have:=(z94 hp).2
        rcases this with h | h <;> (subst h;rfl)
       obtain⟨p,hpq⟩:∃ p,p=k+q:=⟨_,rfl⟩;rw[←hpq] at K HX;clear hp hpq hgo;go_wp2_with (go_at_call 33;((with_reducible refine(K.out).mono ?_));rintro e w1 ⟨t,A,c,rfl,hb⟩;have HB:=zz hb;clear hb)
       go_ret3
       rw[HX.out];exact⟨_,[],rfl,((HT.out.beyond HB.out).alloc _).none_,rfl⟩
      ·obtain⟨q0,q1,_⟩:=z7k hp
       rw[List.length_drop,z0d] at q1;have HX:Hid (goT s.data.toList (behind s.data.toList (k+q)) (l.map (·.1)++[withPl t k])=R):=zz (by rw[←hgo,z2i _ (by rw[z0d];exact a) hp]);have K:=zz (one_o s k q t a hs hp wr);generalize withPl t k=t at K HX;obtain⟨p,hpq⟩:∃ p,p=k+q:=⟨_,rfl⟩;rw[←hpq] at K HX;have n3:k<p:=by omega
       have n2:p≤s.size:=by omega
       clear hp hpq q0 q1 hgo;go_wp2_with (first | (go_at_call 33;((with_reducible refine(K.out).mono ?_));rintro e w1 ⟨A,c,rfl,ho,hb⟩;have HB:=zz hb;have HO:=zz ho;clear hb ho) | (at_builtin;refine wpList_append_own _ rfl (.tmp 64) (.tmp 66) 45 rfl w.heap.size 53 i0 (.agg #[oZ,oS,oZ,(),oZ]) 5 64 Tryz.underlying45 hi0 hz0 hz1 hz2 rfl (by decide) _ _ _ rfl (((HT.out.beyond HB.out).alloc _).alloc _).row ⟨w1.heap.size+1,0,none⟩ 1 1 [t.kind,t.word,t.n,.slice A t.parts.length c,t.pl] rfl rfl (fun j u hu=>z9c w1 (.cells #[t.kind,t.word,t.n,.slice A t.parts.length c,t.pl] 53) 53 #[t.kind,t.word,t.n,.slice A t.parts.length c,t.pl] j u hu) (z4c _ _ _ _ _ _ _) (by unfold maxLen;omega) (by omega) (((HT.out.beyond HB.out).alloc _).alloc _).size ?_;intro v2 w3 hown' hgrow _))
       go_roundw
       case rel=>
        refine⟨p,l++[(t,.slice A t.parts.length c)],n2,rfl,by rw[List.map_append];exact HX.out,(((HT.out.beyond HB.out).alloc _).alloc _).token (g:=t) (u:= .slice A t.parts.length c) ?_ hown' hgrow,by rw[List.length_append];simp;omega⟩;exact(((HO.out.mono HT.out.size).alloc _).alloc _)
       case measure=>simp[intOf];omega
   ·have HX:Hid (R=(some (l.map (·.1)),0,0)):=zz (by rw[←HGk.out,y6i s k a,z54 _ (by rw[z0d];exact a)])
    go_wp2
    go_ret3
    rw[HX.out];exact⟨_,l,rfl,HT.out,rfl⟩
def ReadT (w:World) (ts:List Tok) (q:Nat) (x:Int) (e:Ending) (w':World):Prop:=
 ∃ A c,e= .returned (.tuple #[.slice A ts.length c,q,x])∧RdT w'.heap.size w' A ts.length ts∧Below w.heap.size w w'
theorem z88 {w w':World} {e:Ending} {o:Option (List Tok)} {q:Nat} {x:Int} {ts:List Tok} (ho:o.getD []=ts) (h:PostT w (o,q,x) e w'):ReadT w ts q x e w':=by
 obtain⟨v,l,he,ht,hl⟩:=h;dsimp only at hl;rw[ho] at hl;obtain⟨A,c,rfl,hr⟩:=z8s ht;have e1:l.length=ts.length:=by rw[←hl,List.length_map]
 rw[hl,e1] at hr;rw[e1] at he;exact⟨A,c,he,hr,ht.below⟩
theorem y1j (s:BA) (hs:s.size≤4000) (o:Option (List Tok)) (q:Nat) (x:Int) (ts:List Tok) (ho:o.getD []=ts) (h:scan s.data.toList=(o,q,x)) (w:World) (hG:Given w):Cz 15 #[s] w (ReadT w ts q x):=
 (x19 s hs w hG).mono fun e w' hp=>z88 ho (by rw[←h];exact hp)
theorem z8r (s:BA) (hs:s.size≤4000) (o:Option (List Tok)) (q:Nat) (x:Int) (ts:List Tok) (ho:o.getD []=ts) (h:scan s.data.toList=(o,q,x)) (w:World):Cz 18 #[s] w (ReadT w ts q x):=
 (y97 s hs w).mono fun e w' hp=>z88 ho (by rw[←h];exact hp)
end Go.Proofs.YtngfihoempcplaaGreatDoor
