import Derived.Lib.AppendStr
import Derived.Test.YtdobinjbejagcaaGreatDoorAByte
import Derived.BigQuiet
import Derived.Below
namespace Go.Proofs.YtdobinjbejagcaaGreatDoor
open Go Go.RowKit
set_option maxRecDepth 100000
set_option maxHeartbeats 2000000
structure St (B:Nat) (w0:World) (g:Nat) (N T:ByteArray) (w:World) (v:Value) (t:Bs):Prop where
 two:Two2 B w0 w (.slice none 0 0) v [] t
 blk:w.heap[g]?=some (.cells #[.string N,.string T] 88 (0,0))
theorem own_blk {w:World} {B e s n g:Nat} {v:Value} {xs:List Value} {cs:Array Value} {t:TypeId} (h:w.ownsRow B e s v n xs) (hg:w.heap[g]?=some (.cells cs t (0,0))) (hne:e≠t):some g≠v.ownBlock:=by
 rcases h.2 with ⟨rfl,_⟩ | ⟨g',cap,cur,rfl,_,hh,_⟩
 ·simp[Value.ownBlock]
 ·simp only[Value.ownBlock,ne_eq,Option.some.injEq]
  rintro rfl;rw[hh] at hg;injection hg with hg
  injection hg with _ ht
  exact hne ht
theorem St.cs {B:Nat} {w0:World} {g:Nat} {N T:ByteArray} {w:World} {v:Value} {t:Bs} (h:St B w0 g N T w v t):w.cell? ⟨g,0,none⟩=some (.string N)∧w.cell? ⟨g,1,none⟩=some (.string T):=by
 constructor
 ·rw[cell_of_row w g 0 _ 88 (0,0) h.blk];rfl
 ·rw[cell_of_row w g 1 _ 88 (0,0) h.blk];rfl
theorem St.grown {B:Nat} {w0:World} {g:Nat} {N T:ByteArray} {w w':World} {v v':Value} {t t':Bs} (h:St B w0 g N T w v t) (h2:Two2 B w0 w' (.slice none 0 0) v' [] t') (hg:w.grownBy w' v.ownBlock):St B w0 g N T w' v' t':=
 ⟨h2,(hg.block g (Array.getElem?_eq_some_iff.1 h.blk).1 (own_blk h.two.text h.blk (by decide))).trans h.blk⟩
theorem St.str {B:Nat} {w0:World} {g:Nat} {N T:ByteArray} {w w':World} {v v':Value} {t:Bs} {s:ByteArray} (u:Bs) (hu:s.data.toList=u) (h:St B w0 g N T w v t)
  (ho:w'.ownsRow B 5 1 v' (t.length+s.size) (byteCells t++Lib.strCells s)) (hg:w.grownBy w' v.ownBlock):St B w0 g N T w' v' (t++u):=by
 have e:s.size=u.length:=by rw[←len_data,hu]
 rw[Lib.strCells_eq,hu,e] at ho;exact h.grown (h.two.bytes u ho hg) hg
theorem St.alloc {B:Nat} {w0:World} {g:Nat} {N T:ByteArray} {w:World} {v:Value} {t:Bs} (h:St B w0 g N T w v t) (o:Obj):St B w0 g N T (w.alloc o) v t:=
 ⟨h.two.alloc o,(Below.heap_alloc w o g (Array.getElem?_eq_some_iff.1 h.blk).1).trans h.blk⟩
theorem St.one {B:Nat} {w0:World} {g:Nat} {N T:ByteArray} {w w':World} {v v':Value} {t:Bs} {b:UInt8} (h:St B w0 g N T w v t)
  (ho:w'.ownsRow B 5 1 v' (t.length+1) (byteCells t++[.int .u8 b.toNat])) (hg:w.grownBy w' v.ownBlock):St B w0 g N T w' v' (t++[b]):=
 h.grown (h.two.bytes [b] ho hg) hg
theorem conv_ne {w:World} {B:Nat} {v:Value} {t:Bs} (h:w.ownsRow B 5 1 v t.length (byteCells t)) (h0:t≠[]):(convert 81 9 v).run Tryz.prog w= .ok (.string ⟨t.toArray⟩) w:=by
 rcases text_form h with ⟨_,e⟩ | ⟨g,cap,rfl,_⟩
 ·exact absurd e h0
 ·exact text_conv h
theorem take_pt {ps:List Pt} {k:Nat} {p:Pt} (h:ps[k]?=some p):(ps.take (k+1)).flatMap prP=(ps.take k).flatMap prP++prP p:=by
 obtain⟨hk,e⟩:=List.getElem?_eq_some_iff.1 h;rw[List.take_succ_eq_append_getElem hk,e];simp
theorem take_by (T:ByteArray) (j:Nat) (h:j<T.size):(T.data.toList.take (j+1)).flatMap prB=(T.data.toList.take j).flatMap prB++prB T[j]:=by
 have e:T.data.toList.take (j+1)=T.data.toList.take j++[T[j]]:=by
  rw[List.take_succ_eq_append_getElem (by simpa using h)];rfl
 rw[e];simp
theorem ret_so {a b:ByteArray} {x:Int} (h:a=b):Ending.returned (.tuple #[.string a,.int .i64 x])= .returned (.tuple #[.string b,.int .i64 x]):=by rw[h]
theorem print_len (ps:List Pt) (k:Nat):(34::(ps.take k).flatMap prP).length≤(print ps).length:=by
 unfold print;have e:ps=ps.take k++ps.drop k:=(List.take_append_drop k ps).symm
 have:(ps.flatMap prP).length=((ps.take k).flatMap prP).length+((ps.drop k).flatMap prP).length:=by
  rw[←List.length_append,←List.flatMap_append,List.take_append_drop]
 simp only[List.length_cons,List.length_append];omega
theorem part_len {ps:List Pt} {k:Nat} {p:Pt} (h:ps[k]?=some p):(34::(ps.take k).flatMap prP).length+(prV p.1).length+(p.2.flatMap prB).length≤(print ps).length:=by
 have h1:=print_len ps (k+1);rw[take_pt h] at h1;have e:prP p=prV p.1++p.2.flatMap prB:=rfl;rw[e] at h1;simp only[List.length_cons,List.length_append] at h1 ⊢;omega
theorem sub_len (l:Bs) (j:Nat):((l.take j).flatMap prB).length≤(l.flatMap prB).length:=by
 have:(l.flatMap prB).length=((l.take j).flatMap prB).length+((l.drop j).flatMap prB).length:=by
  rw[←List.length_append,←List.flatMap_append,List.take_append_drop]
 omega
theorem print_yes (A:Option Addr) (n c:Nat) (ps:List Pt) (w:World) (h:Rd w.heap.size w A n ps) (hmax:n≤1000000) (hl:∀ p∈ps,p.1.length≤1000000) (hl2:∀ p∈ps,p.2.length≤1000000) (hp:(print ps).length≤1000000) (hm:may false ps=true):
  Calls Tryz.prog 70 #[.slice A n c] w fun e w'=>e= .returned (.tuple #[.string ⟨(print ps).toArray⟩,.int .i64 0])∧Below w.heap.size w w':=by
 have K:=Lib.hid (may_any A n c ps w h hmax hl);rw[hm] at K;obtain⟨R,hR⟩:∃ R:ByteArray,R=⟨(print ps).toArray⟩:=⟨_,rfl⟩;rw[←hR];have HRes:=Lib.hid hR;have HR:=Lib.hid h;have HN:=Lib.hid h.1;have HL:=Lib.hid hl;have HL2:=Lib.hid hl2;have HP:=Lib.hid hp;obtain⟨j0,hj0,hy0,hy1,hy2⟩:=info_parts info5;clear h hm hl hl2 hR hp;go_enter Tryz.func70,Tryz.ntmps70;go_wp2_with (go_at_call 104;((with_reducible refine(K.out).mono ?_));rintro e w1 ⟨rfl,hb1⟩)
 have hS:Two2 w.heap.size w (w1.alloc (.cells #[.int .u8 34] 5)) (.slice none 0 0) (.slice (some ⟨w1.heap.size,0,none⟩) 1 1) [] [34]:=
  ⟨World.ownsRow_nil _ _ _ _,World.ownsRow_lit w1 #[.int .u8 34] 1 hb1.size (by decide) rfl,hb1.alloc hb1.size _,by have:=hb1.size;simp;omega⟩
 have HS:=Lib.hid hS;clear hS
 go_loopw [4,14] (fun v i wr=>∃ k:Nat,k≤n∧i= .int .i64 k∧Two2 w.heap.size w wr (.slice none 0 0) v [] (34::(ps.take k).flatMap prP)) (fun _ i _=>n - (intOf i).toNat)
 case atStart=>exact⟨0,by omega,rfl,HS.out⟩
 case round=>
  obtain⟨k,hk,rfl,hT⟩:=hrel;have HT:=Lib.hid hT;clear hT;by_cases a:k<n
  ·obtain⟨ad,rfl,hr⟩:=HR.out.2 (by omega)
   obtain⟨p,hp⟩:∃ p,ps[k]?=some p:=⟨_,List.getElem?_eq_getElem (by have:=HN.out;omega)⟩;obtain⟨c0,c1⟩:=(hr.keep HT.out.below).at_ hp
   have hq:=part_len hp;have hnx:=take_pt hp;have HPm:=Lib.hid (List.mem_of_getElem? hp);obtain⟨t0,ht0⟩:∃ t0,t0=34::(ps.take k).flatMap prP:=⟨_,rfl⟩;rw[←ht0] at HT hq;have hnx2:34::(ps.take (k+1)).flatMap prP=t0++prV p.1++p.2.flatMap prB:=by rw[hnx,ht0];unfold prP;simp
   have HX:=Lib.hid hnx2;obtain⟨N,hN⟩:∃ N:ByteArray,N=⟨p.1.toArray⟩:=⟨_,rfl⟩;obtain⟨T,hT⟩:∃ T:ByteArray,T=⟨p.2.toArray⟩:=⟨_,rfl⟩;rw[←hN] at c0;rw[←hT] at c1;have HN1:Hid (N.data.toList=p.1):=Lib.hid (by rw[hN]);have HT1:Hid (T.data.toList=p.2):=Lib.hid (by rw[hT]);have hTs:T.size≤1000000:=by rw[←len_data,HT1.out];exact HL2.out p HPm.out
   have hNs:N.size≤1000000:=by rw[←len_data,HN1.out];exact HL.out p HPm.out
   have hp1:=HP.out;have HQ:Hid (t0.length+(prV p.1).length+(p.2.flatMap prB).length≤1000000):=Lib.hid (by omega);have S1:St w.heap.size w wr.heap.size N T (wr.alloc (.cells #[.string N,.string T] 88)) u4 t0:=⟨HT.out.alloc _,heap_alloc_new wr _⟩;have HS1:=Lib.hid S1;clear hr hp hq hnx ht0 hnx2 S1 hp1;by_cases e1:p.1=[]
   ·obtain⟨n1,n2⟩:=tx_nil hN e1
    have HV:Hid (prV p.1=[]):=by apply Lib.hid;rw[e1];rfl
    clear e1 hN hT;go_wp2
    go_loopw [4,33] (fun v i wq=>∃ j:Nat,j≤T.size∧i= .int .i64 j∧St w.heap.size w wr.heap.size N T wq v (t0++prV p.1++(T.data.toList.take j).flatMap prB)) (fun _ i _=>T.size - (intOf i).toNat)
    case atStart=>exact⟨0,by omega,rfl,by rw[HV.out];simpa using HS1.out⟩
    case round=>
     obtain⟨j,hj,rfl,hS⟩:=hrel;have HSj:=Lib.hid hS;clear hS;obtain⟨d0,d1⟩:=HSj.out.cs;have hsub:=sub_len T.data.toList j;by_cases b:j<T.size
     ·have K18:=Lib.hid (abyte_any w.heap.size w _ _ _ T[j] (by
       have h1:=HQ.out;rw[HT1.out] at hsub ⊢;simp only[List.length_append];omega) HSj.out.two)
      have HJ:=Lib.hid (take_by T j b);clear hsub;go_wp2_with (go_at_call 107;((with_reducible refine(K18.out).mono ?_));rintro e w2 ⟨v',rfl,h2,g2⟩)
      go_roundw
      case rel=>exact⟨j+1,by omega,by go_num,by rw[HJ.out,←List.append_assoc];exact HSj.out.grown h2 g2⟩
      case measure=>simp[intOf];omega
     ·clear hsub
      go_wp2
      go_roundw
      case rel=>
       refine⟨k+1,by omega,by go_num,?_⟩;have hz:=HSj.out.two;rw[List.take_of_length_le (by rw[len_data];omega),HT1.out] at hz;rw[HX.out];exact hz
      case measure=>simp[intOf];omega
   ·obtain⟨n1,n2⟩:=tx_some hN e1
    have HV:Hid (prV p.1=[36,123]++p.1++[125]):=by apply Lib.hid;unfold prV;rw[if_neg e1];simp
    have hq0:=HQ.out;have ht0l:t0.length≤1000000:=by omega
    have HNl:Hid (p.1.length=N.size):=Lib.hid (by rw[←HN1.out,len_data]);clear e1 hN hT hq0;go_wp2_with (first | (at_builtin;refine Lib.wpList_append_own_string _ rfl (.tmp 21) (.const (.string ⟨#[36,123]⟩)) 81 9 rfl w.heap.size 5 j0 Tryz.underlying81 Tryz.underlying9 hj0 hy0 hy1 hy2 _ _ _ rfl HS1.out.two.text ⟨#[36,123]⟩ rfl (by unfold maxLen;show t0.length+2≤_;omega) (by show t0.length+2≤_;omega) HS1.out.two.size ?_;intro v2 w2 h2 g2 _;have S2:=HS1.out.str [36,123] rfl h2 g2;obtain⟨d20,d21⟩:=S2.cs;clear h2 g2) | (at_builtin;refine Lib.wpList_append_own_string _ rfl (.tmp 23) (.tmp 25) 81 9 rfl w.heap.size 5 j0 Tryz.underlying81 Tryz.underlying9 hj0 hy0 hy1 hy2 _ _ _ rfl S2.two.text N rfl (by unfold maxLen;simp;omega) (by simp;omega) S2.two.size ?_;intro v3 w3 h3 g3 _;have S3:=S2.str p.1 HN1.out h3 g3;obtain⟨d30,d31⟩:=S3.cs;clear h3 g3) | (at_builtin;refine wpList_append_own _ rfl (.tmp 27) (.tmp 28) 81 rfl w.heap.size 5 j0 (.int .u8 0) 1 1 Tryz.underlying81 hj0 hy0 hy1 hy2 rfl (by decide) _ _ _ rfl (S3.two.text.alloc _) ⟨w3.heap.size,0,none⟩ 1 1 [.int .u8 125] rfl rfl (fun j u hu=>new_cells w3 5 #[.int .u8 125] j u hu) (one_one _) (by unfold maxLen;rw[List.length_append,List.length_append,HNl.out];simp;omega) (by rw[List.length_append,List.length_append,HNl.out];simp;omega) (S3.alloc _).two.size ?_;intro v4 w4 h4 g4 _;have S4:=(S3.alloc _).one (b:=125) h4 g4;obtain⟨d40,d41⟩:=S4.cs;clear h4 g4))
    go_loopw [4,33] (fun v i wq=>∃ j:Nat,j≤T.size∧i= .int .i64 j∧St w.heap.size w wr.heap.size N T wq v (t0++prV p.1++(T.data.toList.take j).flatMap prB)) (fun _ i _=>T.size - (intOf i).toNat)
    case atStart=>exact⟨0,by omega,rfl,by rw[HV.out];simpa using S4⟩
    case round=>
     obtain⟨j,hj,rfl,hS⟩:=hrel;have HSj:=Lib.hid hS;clear hS;obtain⟨d0,d1⟩:=HSj.out.cs;have hsub:=sub_len T.data.toList j;by_cases b:j<T.size
     ·have K18:=Lib.hid (abyte_any w.heap.size w _ _ _ T[j] (by
       have h1:=HQ.out;rw[HT1.out] at hsub ⊢;simp only[List.length_append];omega) HSj.out.two)
      have HJ:=Lib.hid (take_by T j b);clear hsub;go_wp2_with (go_at_call 107;((with_reducible refine(K18.out).mono ?_));rintro e w2 ⟨v',rfl,h2,g2⟩)
      go_roundw
      case rel=>exact⟨j+1,by omega,by go_num,by rw[HJ.out,←List.append_assoc];exact HSj.out.grown h2 g2⟩
      case measure=>simp[intOf];omega
     ·clear hsub
      go_wp2
      go_roundw
      case rel=>
       refine⟨k+1,by omega,by go_num,?_⟩;have hz:=HSj.out.two;rw[List.take_of_length_le (by rw[len_data];omega),HT1.out] at hz;rw[HX.out];exact hz
      case measure=>simp[intOf];omega
  ·have HX:Hid (print ps=(34::(ps.take k).flatMap prP)++[34]):=by
    apply Lib.hid;rw[List.take_of_length_le (by have:=HN.out;omega)];rfl
   have hx:=print_len ps k;have hp1:=HP.out;obtain⟨t0,ht0⟩:∃ t0,t0=34::(ps.take k).flatMap prP:=⟨_,rfl⟩;rw[←ht0] at HT HX hx;have hx0:t0.length≤1000000:=by omega
   clear hx ht0 hp1;go_wp2_with (at_builtin;refine wpList_append_own _ rfl (.tmp 44) (.tmp 45) 81 rfl w.heap.size 5 j0 (.int .u8 0) 1 1 Tryz.underlying81 hj0 hy0 hy1 hy2 rfl (by decide) _ _ _ rfl (HT.out.text.alloc _) ⟨wr.heap.size,0,none⟩ 1 1 [.int .u8 34] rfl rfl (fun j u hu=>new_cells wr 5 #[.int .u8 34] j u hu) (one_one _) (by unfold maxLen;omega) (by omega) (HT.out.alloc _).size ?_;intro v2 w3 hown' hgrow _;have H3:=(HT.out.alloc _).bytes [34] hown' hgrow;have hcv:=conv_ne H3.text (by simp);clear hown' hgrow)
   go_ret2
   exact⟨ret_so (by rw[HRes.out,HX.out]),H3.below⟩
theorem ret_st {a b:ByteArray} (h:a=b):Ending.returned (.string a)= .returned (.string b):=by rw[h]
theorem hex_any (a:Nat) (ha:a<16) (w:World):Calls Tryz.prog 109 #[.int .u8 a] w fun e w'=>e= .returned (.string ⟨#[hexC a]⟩)∧Below w.heap.size w w':=by
 have hone:=fun (c:UInt8) (W:World)=>one_byte W (c.toNat:Int) c rfl
 have a0:(0:Int)≤a∧(a:Int)<16:=by omega
 go_enter Tryz.func109,Tryz.ntmps109;go_wp2;go_ret;refine⟨ret_st ?_,(Below.refl _ _).alloc (Nat.le_refl _) _⟩;have:=hexC_at a ha ha;show (⟨#[hexSet[a]]⟩:ByteArray)=_;rw[this]
theorem byte_any (c:UInt8) (w:World):Calls Tryz.prog 75 #[.int .u8 c.toNat] w fun e w'=>e= .returned (.string ⟨(prB c).toArray⟩)∧Below w.heap.size w w':=by
 have hone:=fun (c:UInt8) (W:World)=>one_byte W (c.toNat:Int) c rfl
 have c256:=UInt8.toNat_lt c;obtain⟨R,hR⟩:∃ R:ByteArray,R=⟨(prB c).toArray⟩:=⟨_,rfl⟩;rw[←hR];have HR:=Lib.hid hR;clear hR;by_cases h1:c=10
 ·subst h1
  go_enter Tryz.func75,Tryz.ntmps75;go_wp2;go_ret;exact⟨ret_st (by rw[HR.out];rfl),Below.refl _ _⟩
 by_cases h2:c=13
 ·subst h2
  go_enter Tryz.func75,Tryz.ntmps75;go_wp2;go_ret;exact⟨ret_st (by rw[HR.out];rfl),Below.refl _ _⟩
 by_cases h3:c=9
 ·subst h3
  go_enter Tryz.func75,Tryz.ntmps75;go_wp2;go_ret;exact⟨ret_st (by rw[HR.out];rfl),Below.refl _ _⟩
 have f1:((c.toNat:Int)==10)=false:=byte_ne (n:=10) h1 (by omega);have f2:((c.toNat:Int)==13)=false:=byte_ne (n:=13) h2 (by omega);have f3:((c.toNat:Int)==9)=false:=byte_ne (n:=9) h3 (by omega);by_cases h4:c=34
 ·have g4:((c.toNat:Int)==34)=true:=byte_eq (n:=34) h4 (by omega)
  have HE:Hid (prB c=[92,c]):=by apply Lib.hid;rw[h4];rfl
  clear h1 h2 h3 h4;go_enter Tryz.func75,Tryz.ntmps75;go_wp2;go_ret;exact⟨ret_st (by rw[HR.out,HE.out];rfl),(Below.refl _ _).alloc (Nat.le_refl _) _⟩
 have f4:((c.toNat:Int)==34)=false:=byte_ne (n:=34) h4 (by omega);by_cases h5:c=92
 ·have g5:((c.toNat:Int)==92)=true:=byte_eq (n:=92) h5 (by omega)
  have HE:Hid (prB c=[92,c]):=by apply Lib.hid;rw[h5];rfl
  clear h1 h2 h3 h4 h5;go_enter Tryz.func75,Tryz.ntmps75;go_wp2;go_ret;exact⟨ret_st (by rw[HR.out,HE.out];rfl),(Below.refl _ _).alloc (Nat.le_refl _) _⟩
 have f5:((c.toNat:Int)==92)=false:=byte_ne (n:=92) h5 (by omega);by_cases h6:c=36
 ·have g6:((c.toNat:Int)==36)=true:=byte_eq (n:=36) h6 (by omega)
  have HE:Hid (prB c=[92,c]):=by apply Lib.hid;rw[h6];rfl
  clear h1 h2 h3 h4 h5 h6;go_enter Tryz.func75,Tryz.ntmps75;go_wp2;go_ret;exact⟨ret_st (by rw[HR.out,HE.out];rfl),(Below.refl _ _).alloc (Nat.le_refl _) _⟩
 have f6:((c.toNat:Int)==36)=false:=byte_ne (n:=36) h6 (by omega);by_cases hp:plainB c=true
 ·have HE:Hid (prB c=[c]):=by apply Lib.hid;unfold prB;rw[if_pos hp]
  have hx:32≤(c.toNat:Int)∧(c.toNat:Int)≤126:=by
   have:=hp;unfold plainB at this;simp at this;omega
  obtain⟨x1,x2⟩:=hx;clear h1 h2 h3 h4 h5 h6 hp;go_enter Tryz.func75,Tryz.ntmps75;go_wp2;go_ret;exact⟨ret_st (by rw[HR.out,HE.out]),(Below.refl _ _).alloc (Nat.le_refl _) _⟩
 ·have HE:Hid (prB c=[92,120,hexC (c.toNat / 16),hexC (c.toNat % 16)]):=by apply Lib.hid;unfold prB;simp[hp,h1,h2,h3,h4,h5,h6]
  have hx:((c.toNat:Int)<32∧decide (126<(c.toNat:Int))=false)∨(32≤(c.toNat:Int)∧126<(c.toNat:Int)):=by
   have e4:¬ (c.toNat:Int)=34:=by simpa using f4
   have e5:¬ (c.toNat:Int)=92:=by simpa using f5
   have e6:¬ (c.toNat:Int)=36:=by simpa using f6
   have:=hp;unfold plainB at this;simp at this;simp;omega
  obtain⟨a,ha⟩:∃ a,a=c.toNat / 16:=⟨_,rfl⟩;obtain⟨b,hb⟩:∃ b,b=c.toNat % 16:=⟨_,rfl⟩;rw[←ha,←hb] at HE;have e1:(c.toNat:Int) / 16=(a:Int):=by omega
  have e2:(c.toNat:Int) % 16=(b:Int):=by omega
  have KA:=Lib.hid fun w=>hex_any a (by omega) w
  have KB:=Lib.hid fun w=>hex_any b (by omega) w
  clear h1 h2 h3 h4 h5 h6 hp ha hb
  rcases hx with ⟨hx,hx2⟩ | ⟨hx,hx2⟩
  all_goals
   go_enter Tryz.func75,Tryz.ntmps75;go_wp2_with (go_at_call 109;(first | ((with_reducible refine(KA.out _).mono ?_);rintro e w1 ⟨rfl,hb1⟩) | ((with_reducible refine(KB.out _).mono ?_);rintro e w2 ⟨rfl,hb2⟩)));go_ret;exact⟨ret_st (by rw[HR.out,HE.out];rfl),hb1.trans (hb2.mono hb1.size)⟩
theorem cat3 (S N:ByteArray) (t n:Bs) (h:S.data.toList=t) (g:N.data.toList=n) (h0:n≠[]):((S++⟨#[36,123]⟩)++N++⟨#[125]⟩).data.toList=t++prV n:=by
 have e:prV n=[36,123]++n++[125]:=by unfold prV;rw[if_neg h0];simp
 rw[cat_data _ _ _ _ (cat_data _ _ _ _ (cat_data _ _ _ _ h rfl) g) rfl,e];simp
theorem ba_eq (S:ByteArray) (l:Bs) (h:S.data.toList=l):S=⟨l.toArray⟩:=by
 apply ByteArray.ext;rw[←h]
theorem rprint_any (A:Option Addr) (n c:Nat) (ps:List Pt) (w:World) (h:Rd w.heap.size w A n ps) (hmax:n≤1000000) (hl:∀ p∈ps,p.1.length≤1000000) (hl2:∀ p∈ps,p.2.length≤1000000) (hp:(print ps).length≤1000000):
  Calls Tryz.prog 49 #[.slice A n c] w fun e w'=>e= .returned (.string ⟨(print ps).toArray⟩)∧Below w.heap.size w w':=by
 obtain⟨R,hR⟩:∃ R:ByteArray,R=⟨(print ps).toArray⟩:=⟨_,rfl⟩;rw[←hR];have HRes:=Lib.hid hR;have HR:=Lib.hid h;have HN:=Lib.hid h.1;have HL:=Lib.hid hl;have HL2:=Lib.hid hl2;have HP:=Lib.hid hp;clear h hl hl2 hR hp;go_enter Tryz.func49,Tryz.ntmps49;go_wp2
 go_loopw [3,4] (fun o i wr=>∃ (k:Nat) (S:ByteArray),k≤n∧i= .int .i64 k∧o= .string S∧S.data.toList=34::(ps.take k).flatMap prP∧Below w.heap.size w wr) (fun _ i _=>n - (intOf i).toNat)
 case atStart=>exact⟨0,⟨#[34]⟩,by omega,rfl,rfl,rfl,Below.refl _ _⟩
 case round=>
  obtain⟨k,S,hk,rfl,rfl,hS,hb⟩:=hrel
  have hSl:S.size≤1000000:=by
   have h1:=print_len ps k;rw[←hS,len_data] at h1;have:=HP.out;omega
  by_cases a:k<n
  ·obtain⟨ad,rfl,hr⟩:=HR.out.2 (by omega)
   obtain⟨p,hp⟩:∃ p,ps[k]?=some p:=⟨_,List.getElem?_eq_getElem (by have:=HN.out;omega)⟩;obtain⟨c0,c1⟩:=(hr.keep hb).at_ hp
   have hq:=part_len hp;have hnx:=take_pt hp;have HPm:=Lib.hid (List.mem_of_getElem? hp);obtain⟨t0,ht0⟩:∃ t0,t0=34::(ps.take k).flatMap prP:=⟨_,rfl⟩;rw[←ht0] at hS hq;have hnx2:34::(ps.take (k+1)).flatMap prP=t0++prV p.1++p.2.flatMap prB:=by rw[hnx,ht0];unfold prP;simp
   have HX:=Lib.hid hnx2;have HS:=Lib.hid hS;obtain⟨N,hN⟩:∃ N:ByteArray,N=⟨p.1.toArray⟩:=⟨_,rfl⟩;obtain⟨T,hT⟩:∃ T:ByteArray,T=⟨p.2.toArray⟩:=⟨_,rfl⟩;rw[←hN] at c0;rw[←hT] at c1;have HN1:Hid (N.data.toList=p.1):=Lib.hid (by rw[hN]);have HT1:Hid (T.data.toList=p.2):=Lib.hid (by rw[hT]);have hTs:T.size≤1000000:=by rw[←len_data,HT1.out];exact HL2.out p HPm.out
   have hNs:N.size≤1000000:=by rw[←len_data,HN1.out];exact HL.out p HPm.out
   have hp1:=HP.out;have HQ:Hid (t0.length+(prV p.1).length+(p.2.flatMap prB).length≤1000000):=Lib.hid (by omega);have HRr:=Lib.hid hr;have HPp:=Lib.hid hp;clear hr hp hq hnx ht0 hnx2 hp1 hS;by_cases e1:p.1=[]
   ·obtain⟨n1,n2⟩:=tx_nil hN e1
    have HV:Hid (S.data.toList=t0++prV p.1):=by apply Lib.hid;rw[HS.out,e1];simp[prV]
    have hT2:=Lib.hid hT;clear e1 hN hT;go_wp2
    go_loopw [3,5] (fun o i wq=>∃ (j:Nat) (U:ByteArray),j≤T.size∧i= .int .i64 j∧o= .string U∧U.data.toList=t0++prV p.1++(T.data.toList.take j).flatMap prB∧Below w.heap.size w wq) (fun _ i _=>T.size - (intOf i).toNat)
    case atStart=>exact⟨0,_,by omega,rfl,rfl,by rw[HV.out];simp,hb⟩
    case round=>
     obtain⟨j,U,hj,rfl,rfl,hU,hbq⟩:=hrel;have HU:=Lib.hid hU;have hsub:=sub_len T.data.toList j
     have hUl:U.size≤1000000:=by
      rw[←len_data,hU];have h1:=HQ.out;rw[HT1.out] at hsub ⊢;simp only[List.length_append];omega
     clear hU hsub;obtain⟨d0,d1⟩:=(HRr.out.keep hbq).at_ HPp.out
     rw[←hT2.out] at d1;by_cases b:j<T.size
     ·have K23:=Lib.hid fun w=>byte_any T[j] w
      have HJ:=Lib.hid (take_by T j b);have hB:(⟨(prB T[j]).toArray⟩:ByteArray).data.toList=prB T[j]:=rfl
      have hBl:(⟨(prB T[j]).toArray⟩:ByteArray).size≤1000000:=by
       rw[←len_data];show (prB T[j]).length≤_;unfold prB
       repeat (first | (split <;> try (simp;done)) | simp)
      obtain⟨Q,hQ⟩:∃ Q:ByteArray,Q=⟨(prB T[j]).toArray⟩:=⟨_,rfl⟩;rw[←hQ] at K23 hB hBl;have HB:=Lib.hid hB;clear hB hQ;go_wp2_with (go_at_call 75;((with_reducible refine(K23.out _).mono ?_));rintro e w2 ⟨rfl,hb2⟩)
      go_roundw
      case rel=>exact⟨j+1,_,by omega,by go_num,rfl,by rw[HJ.out,←List.append_assoc];exact cat_data _ _ _ _ HU.out HB.out,hbq.trans (hb2.mono hbq.size)⟩
      case measure=>simp[intOf];omega
     ·go_wp2
      go_roundw
      case rel=>
       refine⟨k+1,U,by omega,by go_num,rfl,?_,hbq⟩;have hz:=HU.out;rw[List.take_of_length_le (by rw[len_data];omega),HT1.out] at hz;rw[HX.out];exact hz
      case measure=>simp[intOf];omega
   ·obtain⟨n1,n2⟩:=tx_some hN e1
    have HV:Hid (((S++⟨#[36,123]⟩)++N++⟨#[125]⟩).data.toList=t0++prV p.1):=Lib.hid (cat3 S N _ _ HS.out HN1.out e1);have hT2:=Lib.hid hT;clear e1 hN hT;go_wp2
    go_loopw [3,5] (fun o i wq=>∃ (j:Nat) (U:ByteArray),j≤T.size∧i= .int .i64 j∧o= .string U∧U.data.toList=t0++prV p.1++(T.data.toList.take j).flatMap prB∧Below w.heap.size w wq) (fun _ i _=>T.size - (intOf i).toNat)
    case atStart=>exact⟨0,_,by omega,rfl,rfl,by rw[HV.out];simp,hb⟩
    case round=>
     obtain⟨j,U,hj,rfl,rfl,hU,hbq⟩:=hrel;have HU:=Lib.hid hU;have hsub:=sub_len T.data.toList j
     have hUl:U.size≤1000000:=by
      rw[←len_data,hU];have h1:=HQ.out;rw[HT1.out] at hsub ⊢;simp only[List.length_append];omega
     clear hU hsub;obtain⟨d0,d1⟩:=(HRr.out.keep hbq).at_ HPp.out
     rw[←hT2.out] at d1;by_cases b:j<T.size
     ·have K23:=Lib.hid fun w=>byte_any T[j] w
      have HJ:=Lib.hid (take_by T j b);have hB:(⟨(prB T[j]).toArray⟩:ByteArray).data.toList=prB T[j]:=rfl
      have hBl:(⟨(prB T[j]).toArray⟩:ByteArray).size≤1000000:=by
       rw[←len_data];show (prB T[j]).length≤_;unfold prB
       repeat (first | (split <;> try (simp;done)) | simp)
      obtain⟨Q,hQ⟩:∃ Q:ByteArray,Q=⟨(prB T[j]).toArray⟩:=⟨_,rfl⟩;rw[←hQ] at K23 hB hBl;have HB:=Lib.hid hB;clear hB hQ;go_wp2_with (go_at_call 75;((with_reducible refine(K23.out _).mono ?_));rintro e w2 ⟨rfl,hb2⟩)
      go_roundw
      case rel=>exact⟨j+1,_,by omega,by go_num,rfl,by rw[HJ.out,←List.append_assoc];exact cat_data _ _ _ _ HU.out HB.out,hbq.trans (hb2.mono hbq.size)⟩
      case measure=>simp[intOf];omega
     ·go_wp2
      go_roundw
      case rel=>
       refine⟨k+1,U,by omega,by go_num,rfl,?_,hbq⟩;have hz:=HU.out;rw[List.take_of_length_le (by rw[len_data];omega),HT1.out] at hz;rw[HX.out];exact hz
      case measure=>simp[intOf];omega
  ·have HX:Hid (print ps=(34::(ps.take k).flatMap prP)++[34]):=by
    apply Lib.hid;rw[List.take_of_length_le (by have:=HN.out;omega)];rfl
   have HS:=Lib.hid hS;clear hS;go_wp2;go_ret;exact⟨ret_st (by rw[HRes.out,HX.out];exact ba_eq _ _ (cat_data S _ _ [34] HS.out rfl)),hb⟩
theorem goN_len (r:Bs) (pos:Nat) (ps:List Pt) (t:Bs):∀ out,(goN r pos ps t).1=some out→out.length≤ps.length+1+2 * r.length:=by
 refine goN_ind (P:=fun r pos ps t=>∀ out,(goN r pos ps t).1=some out→out.length≤ps.length+1+2 * r.length) ?_ ?_ ?_ ?_ (r.length+1) r pos ps t (Nat.lt_succ_self _)
 ·intro r k pos ps t h out ho
  rw[goN_bad h] at ho;cases ho
 ·intro r pos ps t h out ho
  rw[goN_stop h] at ho;injection ho with ho;subst ho
  have:=flush_len ps t;omega
 ·intro r nm k pos ps t h h0 h1 ih out ho
  rw[goN_var h] at ho;have:=ih out ho;have h2:=flush_len ps t;rw[List.length_append,List.length_drop] at this;simp at this;omega
 ·intro r c k pos ps t h h0 h1 ih out ho
  rw[goN_byte h] at ho;have:=ih out ho;rw[List.length_drop] at this;omega
theorem parse_len (l:Bs) (out:List Pt) (h:(parse l).1=some out):out.length≤1+2 * l.length:=by
 cases l with
 | nil=>simp[parse] at h
 | cons c r=>
   by_cases hc:c=34
   ·subst hc
    rw[parse_quote] at h;have:=goN_len r 1 [] [] out h;simp at this ⊢;omega
   ·rw[parse_no c r hc] at h;cases h
theorem may_names:∀ (b:Bool) (ps:List Pt),may b ps=true→∀ p∈ps,p.1.length≤8
 | _,[],_,p,hp=>by simp at hp
 | b,q::r,h,p,hp=>by
   rw[may_cons,Bool.and_eq_true] at h
   rcases List.mem_cons.1 hp with rfl | hp
   ·have h1:=h.1
    unfold okP at h1
    split at h1
    ·rename_i e;rw[e];simp
    ·rw[Bool.and_eq_true] at h1
     have h2:=h1.2;unfold isName at h2;simp at h2;have:=(nameLen_le p.1).2;omega
   ·exact may_names _ r h.2 p hp
theorem Rd.onto {w w':World} {A:Option Addr} {n:Nat} {ps:List Pt} (h:Rd w.heap.size w A n ps) (hb:Below w.heap.size w w'):Rd w'.heap.size w' A n ps:=
 ⟨h.1,fun hn=>by
  obtain⟨ad,e,hr⟩:=h.2 hn;exact⟨ad,e,Nat.lt_of_lt_of_le hr.1 hb.size,(hr.keep hb).2⟩⟩
theorem prB_len (c:UInt8):(prB c).length≤4:=by
 have h:∀ c:UInt8,(prB c).length≤4:=all256 _ (by decide+kernel);exact h c
theorem bytes_len:∀ l:Bs,(l.flatMap prB).length≤4 * l.length
 | []=>by simp
 | c::l=>by
   have:=bytes_len l;have:=prB_len c;rw[List.flatMap_cons,List.length_append,List.length_cons];omega
section
def Bw (w:World):Type:={x:World // Below w.heap.size w x}
theorem bw_some (w:World):Nonempty (Bw w):=⟨⟨w,Below.refl _ _⟩⟩
def Bw.at {w:World} (n:Bw w):World:=n.1
section
variable {P:Program} {w:World}
theorem wp_region_below {id:Nat} {Q:Exit→Act→World→Prop} {a:Act} {l:List Oper} (hm:P.follows .mixedOrders=true) (hB:Region.lexB .any l.toArray=true)
  (h:wpQuiet P l.toArray (fun w'=>∃ n:Bw w,w'=n.at) (fun a'=>∀ w',(∃ n:Bw w,w'=n.at)→Q .normal a' w') l a):(Code.region id l.toArray true).wp P Q a w:=
 wp_region_quiet (C:=fun w'=>∃ n:Bw w,w'=n.at) hm hB ⟨⟨w.drew,(Below.refl _ _).drew⟩,rfl⟩ (by simpa using h)
theorem bw_calls {f:FuncId} {args:Array Value} {v:Value} {n:Bw w} (h:Calls P f args n.at fun e w''=>e= .returned v∧Below n.at.heap.size n.at w''):
  Calls P f args n.at fun e w''=>e= .returned v∧∃ m:Bw w,w''=m.at:=
 h.mono fun _ w'' ⟨he,hb⟩=>⟨he,⟨w'',n.2.trans (hb.mono n.2.size)⟩,rfl⟩
end
theorem bw_cell {w:World} {a:Addr} {v:Value} (h:w.cell? a=some v) (n:Bw w):n.at.cell? a=some v:=(n.2.cell (World.block_lt_of_cell? w _ h)).trans h
end
theorem RdA.at0 {B:Nat} {w:World} {ad:Addr} {ps:List Pt} (h:RdA B w ad ps) {p:Pt} (hk:ps[0]?=some p):
  w.cell? ad=some (.string ⟨p.1.toArray⟩)∧w.cell? ⟨ad.block,ad.off+1,none⟩=some (.string ⟨p.2.toArray⟩):=by
 have h2:=h.at_ hk
 have e:ad.add (0 * 2)=ad:=by simp[Addr.add]
 rw[e] at h2;exact h2
theorem plain_zero (A:Option Addr) (c:Nat) (w:World):
  Calls Tryz.prog 139 #[.slice A 0 c] w fun e w'=>e= .returned (.tuple #[.string ⟨#[]⟩,.bool true])∧Below w.heap.size w w':=by
 go_enter Tryz.func139,Tryz.ntmps139;go_wp2
 go_ret2
 exact⟨rfl,Below.refl _ _⟩
theorem plain_many (A:Option Addr) (n c:Nat) (h:1<n) (hm:n≤1000000) (w:World):
  Calls Tryz.prog 139 #[.slice A n c] w fun e w'=>e= .returned (.tuple #[.string ⟨#[]⟩,.bool false])∧Below w.heap.size w w':=by
 have h1:((n:Int)==0)=false:=by simp;omega
 have h2:(n==0)=false:=by simp;omega
 go_enter Tryz.func139,Tryz.ntmps139;go_wp2
 go_ret2
 exact⟨rfl,Below.refl _ _⟩
theorem plain_var (A:Option Addr) (c:Nat) (p:Pt) (w:World) (h:Rd w.heap.size w A 1 [p]) (hp:¬ p.1=[]):
  Calls Tryz.prog 139 #[.slice A 1 c] w fun e w'=>e= .returned (.tuple #[.string ⟨#[]⟩,.bool false])∧Below w.heap.size w w':=by
 obtain⟨ad,rfl,hr⟩:=h.2 (by omega);obtain⟨c0,c1⟩:=hr.at0 (p:=p) rfl;obtain⟨N,hN⟩:∃ N:ByteArray,N=⟨p.1.toArray⟩:=⟨_,rfl⟩;rw[←hN] at c0;obtain⟨n1,n2⟩:=tx_some hN hp;clear h hr hN hp;go_enter Tryz.func139,Tryz.ntmps139;go_wp2
 go_ret2
 exact⟨rfl,Below.refl _ _⟩
theorem plain_text (A:Option Addr) (c:Nat) (p:Pt) (T:ByteArray) (hT:T=⟨p.2.toArray⟩) (w:World) (h:Rd w.heap.size w A 1 [p]) (hp:p.1=[]) (hp2:¬ p.2=[]) (hs:T.size≤1000000):
  Calls Tryz.prog 139 #[.slice A 1 c] w fun e w'=>e= .returned (.tuple #[.string T,.bool true])∧Below w.heap.size w w':=by
 have K:=Lib.hid (may_any A 1 c [p] w h (by omega) (by intro q hq;simp at hq;subst hq;rw[hp];simp));have hm:may false [p]=true:=by simp[may,okP,hp,hp2]
 rw[hm] at K;obtain⟨ad,rfl,hr⟩:=h.2 (by omega);obtain⟨c0,c1⟩:=hr.at0 (p:=p) rfl;have HK:Hid (∀ w1,Below w.heap.size w w1→w1.cell? ⟨ad.block,ad.off+1,none⟩=some (.string T)):=Lib.hid fun w1 hb=>by rw[hT];exact((hr.keep hb).at0 (p:=p) rfl).2
 obtain⟨N,hN⟩:∃ N:ByteArray,N=⟨p.1.toArray⟩:=⟨_,rfl⟩;rw[←hN] at c0;obtain⟨n1,n2⟩:=tx_nil hN hp;have KC:=Lib.hid fun w=>clone_any T (by omega) w
 clear h hr hN hp hp2 hT hm c1;go_enter Tryz.func139,Tryz.ntmps139;go_wp2_with (first | (go_at_call 104;((with_reducible refine(K.out).mono ?_));rintro e w1 ⟨rfl,hb1⟩;have d1:=HK.out w1 hb1) | (go_at_call 71;((with_reducible refine(KC.out _).mono ?_));rintro e w2 ⟨rfl,hb2⟩))
 go_ret2
 exact⟨rfl,hb1.trans (hb2.mono hb1.size)⟩
end Go.Proofs.YtdobinjbejagcaaGreatDoor
