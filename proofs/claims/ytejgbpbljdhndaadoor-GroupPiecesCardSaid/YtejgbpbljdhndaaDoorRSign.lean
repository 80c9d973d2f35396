import Derived.Test.YtejgbpbljdhndaaDoorARe2
import Derived.Test.YtejgbpbljdhndaaDoorParse
import Derived.Test.YtejgbpbljdhndaaDoorRSame
namespace Go.Proofs.YtejgbpbljdhndaaDoor
open Go Go.RowKit
set_option maxRecDepth 100000
set_option maxHeartbeats 2000000
theorem z6o (p:Sp):(itemT p).length≤5:=by
 unfold itemT;have:=z26 sgI p.1;have:=z26 sgI p.2
 split <;> simp <;> omega
theorem z9u:∀ l:List Sp,(l.flatMap itemT).length≤5 * l.length
 | []=>by simp
 | p::l=>by
   have:=z9u l;have:=z6o p;rw[List.flatMap_cons,List.length_append,List.length_cons];omega
theorem z9h {α:Type} {l:List α} {k:Nat} {p:α} (f:α→Bs) (h:l[k]?=some p):(l.take (k+1)).flatMap f=(l.take k).flatMap f++f p:=by
 obtain⟨hk,e⟩:=List.getElem?_eq_some_iff.1 h;rw[List.take_succ_eq_append_getElem hk,e];simp
theorem x3y (p:Sp) (x y:Int) (hx:x=(p.1.toNat:Int)) (hy:y=(p.2.toNat:Int)):okS p=decide (x≤y):=by rw[hx,hy];rfl
theorem z1z {a b:ByteArray} (h:a=b):Ending.returned (.string a)= .returned (.string b):=by rw[h]
theorem z0q (T U:ByteArray) (t u:Bs) (h:T.data.toList=t) (g:U.data.toList=u):(T++U).data.toList=t++u:=by
 rw[ByteArray.data_append,Array.toList_append,h,g]
theorem ba_eq (S:ByteArray) (l:Bs) (h:S.data.toList=l):S=⟨l.toArray⟩:=by
 apply ByteArray.ext;rw[←h]
theorem z4f (w:World) (x:Int) (c:UInt8) (e:(c.toNat:Int)=x):
  (convert 99 9 (.slice (some ⟨w.heap.size,0,none⟩) 1 1)).run Tryd.prog (w.alloc (.cells #[.int .u8 x] 5))= .ok (.string ⟨#[c]⟩) (w.alloc (.cells #[.int .u8 x] 5)):=by
 refine run_convert_bytes_back (P:=Tryd.prog) (w.alloc (.cells #[.int .u8 x] 5)) 99 9 5 ⟨w.heap.size,0,none⟩ 1 [c] Tryd.underlying99 Tryd.underlying5 Tryd.underlying9 ?_;intro j hj;obtain rfl:j=0:=by simpa using hj
 show _=some (Value.int .u8 (c.toNat:Int));rw[e];exact cell_one_new _ _ _ 0 _ rfl
theorem y3y (c:UInt8) (w:World):Calls Tryd.prog 83 #[.int .u8 c.toNat] w fun e w'=>e= .returned (.string ⟨(esc sgI c).toArray⟩)∧Below w.heap.size w w':=by
 have hone:=fun (W:World)=>z4f W (c.toNat:Int) c rfl
 obtain⟨R,hR⟩:∃ R:ByteArray,R=⟨(esc sgI c).toArray⟩:=⟨_,rfl⟩;rw[←hR];have HR:=Lib.hid hR;clear hR;by_cases h1:c=93
 ·have g1:((c.toNat:Int)==93)=true:=z24 (n:=93) h1 (by omega)
  have HE:Hid (esc sgI c=[92,c]):=by apply Lib.hid;rw[h1];rfl
  clear h1;go_enter Tryd.func83,Tryd.ntmps83;go_wp2;go_ret;exact⟨z1z (by rw[HR.out,HE.out];rfl),(Below.refl _ _).alloc (Nat.le_refl _) _⟩
 have f1:((c.toNat:Int)==93)=false:=z2h (n:=93) h1 (by omega);by_cases h2:c=45
 ·have g1:((c.toNat:Int)==45)=true:=z24 (n:=45) h2 (by omega)
  have HE:Hid (esc sgI c=[92,c]):=by apply Lib.hid;rw[h2];rfl
  clear h1 h2;go_enter Tryd.func83,Tryd.ntmps83;go_wp2;go_ret;exact⟨z1z (by rw[HR.out,HE.out];rfl),(Below.refl _ _).alloc (Nat.le_refl _) _⟩
 have f2:((c.toNat:Int)==45)=false:=z2h (n:=45) h2 (by omega);by_cases h3:c=92
 ·have g1:((c.toNat:Int)==92)=true:=z24 (n:=92) h3 (by omega)
  have HE:Hid (esc sgI c=[92,c]):=by apply Lib.hid;rw[h3];rfl
  clear h1 h2 h3;go_enter Tryd.func83,Tryd.ntmps83;go_wp2;go_ret;exact⟨z1z (by rw[HR.out,HE.out];rfl),(Below.refl _ _).alloc (Nat.le_refl _) _⟩
 have f3:((c.toNat:Int)==92)=false:=z2h (n:=92) h3 (by omega);have HE:Hid (esc sgI c=[c]):=by apply Lib.hid;unfold esc;rw[if_neg (by simp[sgI,h1,h2,h3])]
 clear h1 h2 h3;go_enter Tryd.func83,Tryd.ntmps83;go_wp2;go_ret;exact⟨z1z (by rw[HR.out,HE.out]),(Below.refl _ _).alloc (Nat.le_refl _) _⟩
theorem y0w (c:UInt8) (x:Int) (hx:x=c.toNat) (w:World):Calls Tryd.prog 83 #[.int .u8 x] w fun e w'=>e= .returned (.string ⟨(esc sgI c).toArray⟩)∧Below w.heap.size w w':=by
 subst hx;exact y3y c w
theorem z3n {S:ByteArray} {l:Bs} {n:Nat} (h:S.data.toList=l) (hn:l.length≤n):S.size≤n:=by
 rw[←z0o,h];exact hn
theorem y7n (A:Option Addr) (n c:Nat) (l:List Sp) (hn:n=l.length) (w:World) (h:RdS w.heap.size w A l) (hmax:n≤1000) (hok:l.all okS=true):
  Calls Tryd.prog 75 #[.slice A n c] w fun e w'=>e= .returned (.string ⟨(l.flatMap itemT).toArray⟩)∧Below w.heap.size w w':=by
 obtain⟨R,hR⟩:∃ R:ByteArray,R=⟨(l.flatMap itemT).toArray⟩:=⟨_,rfl⟩;rw[←hR];have HRes:=Lib.hid hR;have HR:=Lib.hid h;have HN:=Lib.hid hn;have HOK:=Lib.hid hok;clear h hR hn hok;go_enter Tryd.func75,Tryd.ntmps75;go_wp2
 go_loopw [3,4] (fun o i wr=>∃ (k:Nat) (S:ByteArray),k≤n∧i= .int .i64 k∧o= .string S∧S.data.toList=(l.take k).flatMap itemT∧Below w.heap.size w wr) (fun _ i _=>n - (intOf i).toNat)
 case atStart=>exact⟨0,⟨#[]⟩,by omega,rfl,rfl,rfl,Below.refl _ _⟩
 case round=>
  obtain⟨k,S,hk,rfl,rfl,hS,hb⟩:=hrel;have hSl:S.size≤5000:=z3n hS (by have:=z9u (l.take k);have h2:(l.take k).length≤1000:=(by rw[List.length_take];omega);omega);have HS:=Lib.hid hS;clear hS;by_cases a:k<n
  ·obtain⟨p,hp⟩:=z0u HN.out a
   obtain⟨x,hx⟩:∃ x:Int,x=p.1.toNat:=⟨_,rfl⟩;obtain⟨y,hy⟩:∃ y:Int,y=p.2.toNat:=⟨_,rfl⟩
   have hxy:x≤y:=by
    have:=List.all_eq_true.1 HOK.out p (List.mem_of_getElem? hp);rw[x3y p x y hx hy] at this;simpa using this
   have HF:=Lib.hid (z9h itemT hp);have hit:itemT p=esc sgI p.1++if x<y then 45::esc sgI p.2 else []:=by rw[hx,hy];rfl
   obtain⟨X,hX⟩:∃ X:ByteArray,X=⟨(esc sgI p.1).toArray⟩:=⟨_,rfl⟩;obtain⟨Y,hY⟩:∃ Y:ByteArray,Y=⟨(esc sgI p.2).toArray⟩:=⟨_,rfl⟩;have hXl:X.size≤2:=z3n (l:=esc sgI p.1) (by rw[hX]) (z26 _ _);have hYl:Y.size≤2:=z3n (l:=esc sgI p.2) (by rw[hY]) (z26 _ _);have K1:=fun w=>y0w p.1 x hx w
   have K2:=fun w=>y0w p.2 y hy w
   rw[←hX] at K1;rw[←hY] at K2;have HX:Hid (X.data.toList=esc sgI p.1):=Lib.hid (by rw[hX]);have HY:Hid (Y.data.toList=esc sgI p.2):=Lib.hid (by rw[hY]);have K1:=Lib.hid K1;have K2:=Lib.hid K2;obtain⟨ad,rfl,c0,c1⟩:=(HR.out.keep hb).at_ hp
   rw[←hx] at c0;rw[←hy] at c1
   have HC:Hid (∀ w',Below wr.heap.size wr w'→At2 w' (ad.add (k * 2)) x y):=Lib.hid fun w' hb'=>by
    obtain⟨ad',e,h2⟩:=(HR.out.keep (hb.trans (hb'.mono hb.size))).at_ hp
    injection e with e;subst e
    rw[hx,hy];exact h2
   by_cases l1:x<y
   ·rw[if_pos l1] at hit
    have HI:=Lib.hid hit;have l2:(y != x)=true:=by simp;omega
    clear hp hx hy hit hX hY hxy;go_wp2_with (go_at_call 83;((with_reducible refine(K1.out _).mono ?_));rintro e w1 ⟨rfl,hb1⟩;obtain⟨d0,d1⟩:=HC.out _ hb1;have HB1:=Lib.hid hb1;clear hb1);go_quiet (fail);go_wp2_with (go_at_call 83;((with_reducible refine(K2.out _).mono ?_));rintro e w2 ⟨rfl,hb2⟩;have HB2:=Lib.hid hb2;clear hb2)
    go_roundw
    case rel=>exact⟨k+1,_,by omega,by go_num,rfl,by rw[HF.out,HI.out];have:=z0q _ _ _ _ (z0q _ _ _ _ (z0q _ _ _ _ HS.out HX.out) (rfl:(⟨#[45]⟩:ByteArray).data.toList=[45])) HY.out;simpa using this,hb.trans ((below_drewN HB1.out _).trans (HB2.out.mono HB1.out.size) |>.mono hb.size)⟩
    case measure=>simp[intOf];omega
   ·have l2:y=x:=by omega
    rw[if_neg l1,List.append_nil] at hit;have HI:=Lib.hid hit;have l3:(x != x)=false:=by simp
    rw[l2] at HC K2 c1;clear hp hx hy hit hX hY hxy l2;go_wp2_with (go_at_call 83;((with_reducible refine(K1.out _).mono ?_));rintro e w1 ⟨rfl,hb1⟩;obtain⟨d0,d1⟩:=HC.out _ hb1;have HB1:=Lib.hid hb1;clear hb1);go_quiet (fail);go_wp2
    go_roundw
    case rel=>exact⟨k+1,_,by omega,by go_num,rfl,by rw[HF.out,HI.out];exact z0q _ _ _ _ HS.out HX.out,hb.trans ((below_drewN HB1.out _).mono hb.size)⟩
    case measure=>simp[intOf];omega
  ·have HX:Hid ((l.take k)=l):=by
    apply Lib.hid;rw[List.take_of_length_le (by have:=HN.out;omega)]
   go_wp2;go_ret;exact⟨z1z (by rw[HRes.out];exact ba_eq _ _ (by rw[HS.out,HX.out])),hb⟩
theorem y2s (i:Nat) (hi:i≤8):wrap64 (48+(i:Int)) % 256=((dig i).toNat:Int):=by
 have e:wrap64 (48+(i:Int))=48+i:=by unfold wrap64;omega
 unfold dig;rw[e,UInt8.toNat_ofNat',Nat.mod_eq_of_lt (by omega)];omega
theorem y5m (lo hi:Int) (hb:bound lo hi=true) (w:World):Calls Tryd.prog 65 #[.int .i64 lo,.int .i64 hi] w fun e w'=>e= .returned (.string ⟨(signT lo hi).toArray⟩)∧Below w.heap.size w w':=by
 unfold bound at hb;simp only[Bool.and_eq_true,Bool.or_eq_true,decide_eq_true_eq] at hb;obtain⟨h0,h8,hh⟩:=hb;obtain⟨i,rfl⟩:∃ i:Nat,lo=i:=⟨lo.toNat,by omega⟩;by_cases c1:(i:Int)=0∧hi= -1
 ·have e:signT i hi=[42]:=by unfold signT;rw[if_pos c1]
  rw[e];obtain⟨c1,rfl⟩:=c1;obtain rfl:i=0:=by omega
  clear e h0 h8 hh c1;go_enter Tryd.func65,Tryd.ntmps65;go_wp2;go_ret;exact⟨rfl,Below.refl _ _⟩
 ·by_cases c2:(i:Int)=1∧hi= -1
  ·have e:signT i hi=[43]:=by unfold signT;rw[if_neg c1,if_pos c2]
   rw[e];obtain⟨c2,rfl⟩:=c2;obtain rfl:i=1:=by omega
   clear e h0 h8 hh c1 c2;go_enter Tryd.func65,Tryd.ntmps65;go_wp2;go_ret;exact⟨rfl,Below.refl _ _⟩
  ·by_cases c3:(i:Int)=0∧hi=1
   ·have e:signT i hi=[63]:=by unfold signT;rw[if_neg c1,if_neg c2,if_pos c3]
    rw[e];obtain⟨c3,rfl⟩:=c3;obtain rfl:i=0:=by omega
    clear e h0 h8 hh c1 c2 c3;go_enter Tryd.func65,Tryd.ntmps65;go_wp2;go_ret;exact⟨rfl,Below.refl _ _⟩
   ·have hw:=y2s i (by omega)
    have hone:=fun (W:World)=>z4f W ((dig i).toNat:Int) (dig i) rfl
    have h48:=fun (W:World)=>z4f W 48 48 rfl
    have h49:=fun (W:World)=>z4f W 49 49 rfl
    obtain⟨D,hD⟩:∃ D,D=dig i:=⟨_,rfl⟩;have HD1:Hid (i=1→D=49):=Lib.hid (by intro h;rw[hD,h];rfl);have HD0:Hid (i=0→D=48):=Lib.hid (by intro h;rw[hD,h];rfl);obtain⟨Z,hZ⟩:∃ Z:Int,Z=(D.toNat:Int):=⟨_,rfl⟩;rw[←hD,←hZ] at hw hone;by_cases c4:hi=i
    ·have e:signT i hi=[123,D,125]:=by unfold signT;rw[if_neg c1,if_neg c2,if_neg c3,if_pos c4,hD]
     rw[e];subst c4;have b1:((i:Int)== -1)=false:=by first | (simp;done) | (simp;omega)
     have b3:(((i:Int)==0) && ((i:Int)==1))=false:=by first | (simp;done) | (simp;omega)
     clear e h0 h8 hh c1 c2 c3 hD hZ;by_cases z0:(i:Int)=0
     ·obtain rfl:i=0:=by omega
      obtain rfl:=HD0.out rfl;clear hw hone;go_enter Tryd.func65,Tryd.ntmps65;go_wp2
      all_goals (
       go_ret;exact⟨rfl,(Below.refl _ _).alloc (Nat.le_refl _) _⟩)
     ·by_cases z1:i=1
      ·subst z1
       obtain rfl:=HD1.out rfl;clear hw hone;go_enter Tryd.func65,Tryd.ntmps65;go_wp2
       all_goals (
        go_ret;exact⟨rfl,(Below.refl _ _).alloc (Nat.le_refl _) _⟩)
      ·have b0:((i:Int)==0)=false:=by first | (simp;done) | (simp;omega)
       have b0':(i==0)=false:=by first | (simp;done) | (simp;omega)
       have b4:((i:Int)==1)=false:=by first | (simp;done) | (simp;omega)
       have b4':(i==1)=false:=by first | (simp;done) | (simp;omega)
       clear z0 z1;go_enter Tryd.func65,Tryd.ntmps65;go_wp2
       all_goals (
        go_ret;exact⟨rfl,(Below.refl _ _).alloc (Nat.le_refl _) _⟩)
    ·by_cases c5:hi= -1
     ·have e:signT i hi=[123,D,44,125]:=by unfold signT;rw[if_neg c1,if_neg c2,if_neg c3,if_neg c4,if_pos c5,hD]
      rw[e];subst c5;have b0:((i:Int)==0)=false:=by first | (simp;done) | (simp;omega)
      have b1:((i:Int)==1)=false:=by first | (simp;done) | (simp;omega)
      have b2:((-1:Int) != (i:Int))=true:=by first | (simp;done) | (simp;omega)
      have b0':(i==0)=false:=by first | (simp;done) | (simp;omega)
      have b1':(i==1)=false:=by first | (simp;done) | (simp;omega)
      clear e h0 h8 hh c1 c2 c3 c4 hD hZ;go_enter Tryd.func65,Tryd.ntmps65;go_wp2
      all_goals (
       go_ret;exact⟨rfl,(Below.refl _ _).alloc (Nat.le_refl _) _⟩)
     ·obtain⟨j,rfl⟩:∃ j:Nat,hi=j:=⟨hi.toNat,by omega⟩
      have hw2:=y2s j (by omega);have hone2:=fun (W:World)=>z4f W ((dig j).toNat:Int) (dig j) rfl
      have e:signT i j=[123,D,44,dig j,125]:=by unfold signT;rw[if_neg c1,if_neg c2,if_neg c3,if_neg c4,if_neg c5,hD]
      rw[e];obtain⟨D2,hD2⟩:∃ D,D=dig j:=⟨_,rfl⟩;obtain⟨Z2,hZ2⟩:∃ Z:Int,Z=(D2.toNat:Int):=⟨_,rfl⟩;rw[←hD2,←hZ2] at hw2 hone2;rw[←hD2]
      have hone3:∀ (o:Obj),(convert 99 9 (.slice (some ⟨w.heap.size+1,0,none⟩) 1 1)).run Tryd.prog ((w.alloc o).alloc (.cells #[.int .u8 Z2] 5))= .ok (.string ⟨#[D2]⟩) ((w.alloc o).alloc (.cells #[.int .u8 Z2] 5)):=fun o=>by
       have:=hone2 (w.alloc o);rwa [World.size_alloc] at this
      clear hone2;have b1:((j:Int)== -1)=false:=by first | (simp;done) | (simp;omega)
      have b2:((j:Int) != (i:Int))=true:=by first | (simp;done) | (simp;omega)
      have b2':(j != i)=true:=by first | (simp;done) | (simp;omega)
      have hlt:(i:Int)<j:=by omega
      clear e h0 h8 hh c1 c2 c4 c5 hD hZ hD2 hZ2;by_cases z0:i=0
      ·subst z0
       obtain rfl:=HD0.out rfl;clear hw hone;have b3:((j:Int)==1)=false:=by first | (simp;done) | (simp;omega)
       have b3':(j==1)=false:=by first | (simp;done) | (simp;omega)
       clear c3;go_enter Tryd.func65,Tryd.ntmps65;go_wp2
       all_goals (
        go_ret;exact⟨rfl,z0e _ _ _⟩)
      ·by_cases z1:i=1
       ·subst z1
        obtain rfl:=HD1.out rfl;clear hw hone c3 z0;go_enter Tryd.func65,Tryd.ntmps65;go_wp2
        all_goals (
         go_ret;exact⟨rfl,z0e _ _ _⟩)
       have b4:((i:Int)==1)=false:=by first | (simp;done) | (simp;omega)
       have b4':(i==1)=false:=by first | (simp;done) | (simp;omega)
       have b0:((i:Int)==0)=false:=by first | (simp;done) | (simp;omega)
       have b0':(i==0)=false:=by first | (simp;done) | (simp;omega)
       clear c3 z0 z1;go_enter Tryd.func65,Tryd.ntmps65;go_wp2
       all_goals (
        go_ret;exact⟨rfl,z0e _ _ _⟩)
end Go.Proofs.YtejgbpbljdhndaaDoor
