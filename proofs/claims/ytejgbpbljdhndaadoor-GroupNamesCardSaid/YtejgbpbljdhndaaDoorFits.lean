import Derived.Test.YtejgbpbljdhndaaDoorTold
import Derived.Test.YtejgbpbljdhndaaDoorQTail
namespace Go.Proofs.YtejgbpbljdhndaaDoor
open Go Go.RowKit
set_option maxRecDepth 100000
set_option maxHeartbeats 4000000
theorem z33 (lv d:Nat) (b:List Re):∀ (a:List Re) (g:Nat),formL (a++b) lv d g=match formL a lv d g with
  | none=>none
  | some g'=>formL b lv d g'
 | [],g=>by simp[formL]
 | x::a,g=>by
   rw[List.cons_append,formL,formL]
   cases form x lv d g with
   | none=>rfl
   | some g'=>exact z33 lv d b a g'
theorem z7k {lv d g g':Nat} {l:List Re} {k:Nat} {r:Re} (h:l[k]?=some r) (hp:formL (l.take k) lv d g=some g'):formL (l.take (k+1)) lv d g=form r lv d g':=by
 obtain⟨hk,e⟩:=List.getElem?_eq_some_iff.1 h;rw[List.take_succ_eq_append_getElem hk,e,z33,hp];simp only[formL]
 cases form r lv d g' <;> rfl
theorem z7m {lv d g:Nat} {l:List Re} {k:Nat} (hp:formL (l.take k) lv d g=none):formL l lv d g=none:=by
 rw[←List.take_append_drop k l,z33,hp]
theorem z99 {lv d g:Nat} {l:List Re} {k:Nat} (hk:l.length≤k):formL l lv d g=formL (l.take k) lv d g:=by rw[List.take_of_length_le hk]
theorem y1a (r:Re):∀ lv d g g',form r lv d g=some g'→g'≤g+sizeE r:=by
 induction r using Re.ind with
 | h k S ks lo hi n ih=>
   have hL:∀ (l:List Re),(∀ r∈l,r∈ks)→∀ lv d g g',formL l lv d g=some g'→g'≤g+sizeL l:=by
    intro l
    induction l with
    | nil=>intro _ lv d g g' h;rw[formL] at h;injection h with h;rw[sizeL];omega
    | cons x l ih2=>
      intro hm lv d g g' h;rw[formL] at h
      cases hx:form x lv d g with
      | none=>rw[hx] at h;cases h
      | some g1=>
        rw[hx] at h;have h1:=ih x (hm x (by simp)) lv d g g1 hx;have h2:=ih2 (fun r hr=>hm r (by simp[hr])) lv d g1 g' h;rw[sizeL];omega
   intro lv d g g' h;rw[form] at h;rw[sizeE]
   split at h
   ·split at h
    ·split at h
     ·have:=hL ks (fun r hr=>hr) _ _ _ _ h;omega
     ·cases h
    ·have:=hL ks (fun r hr=>hr) _ _ _ _ h;omega
   ·cases h
theorem z8t:∀ (l:List Re) (lv d g g':Nat),formL l lv d g=some g'→g'≤g+sizeL l
 | [],lv,d,g,g',h=>by rw[formL] at h;injection h with h;rw[sizeL];omega
 | x::l,lv,d,g,g',h=>by
   rw[formL] at h
   cases hx:form x lv d g with
   | none=>rw[hx] at h;cases h
   | some g1=>
     rw[hx] at h;have h1:=y1a x lv d g g1 hx;have h2:=z8t l lv d g1 g' h;rw[sizeL];omega
def Off (b B:Nat):Nat→Prop:=fun k=>k<B∧k≠b
theorem z79 {b:Nat} {w w':World} (hg:w.grownBy w' (some b)):SameOn (Off b w.heap.size) w w':=fun a ha=>World.cell?_of_block (hg.block a.block ha.1 (fun e=>ha.2 (by injection e)))
theorem z0a {b:Nat} {w w1 w2:World} (h:w.grownBy w1 (some b)) (k:w1.grownBy w2 (some b)):w.grownBy w2 (some b):=
 ⟨k.os.trans h.os,k.tape.trans h.tape,k.output.trans h.output,Nat.le_trans h.size k.size,fun i hi hn=>(k.block i (Nat.lt_of_lt_of_le hi h.size) hn).trans (h.block i hi hn)⟩
theorem z0f {b:Nat} {w w1:World} (h:Below w.heap.size w w1):w.grownBy w1 (some b):=⟨h.os,h.tape,h.output,h.size,fun k hk _=>h.block k hk⟩
theorem z4h (b:Nat) (w:World):w.grownBy w.drew (some b):=⟨rfl,rfl,rfl,Nat.le_refl _,fun _ _ _=>rfl⟩
theorem z0h (b o:Nat) (w:World) (u:Value):w.grownBy (w.setCell ⟨b,o,none⟩ u) (some b):=⟨rfl,rfl,rfl,by simp[World.setCell],fun k _ hn=>Below.heap_setCell _ _ _ _ (fun e=>hn (by rw[e]))⟩
theorem z3q {b B:Nat} {w w1 w2:World} (h:Below B w w1) (hg:w1.grownBy w2 (some b)) (hB:B≤w1.heap.size) (hb:B≤b):Below B w w2:=h.grown hg hB (fun k hk=>by injection hk with hk;omega)
theorem Kids.off {b:Nat} {w w':World} {A:Option Addr} {r:Re} (h:Kids (Off b w.heap.size) w A r) (hg:w.grownBy w' (some b)):Kids (Off b w'.heap.size) w' A r:=
 z05 (z79 hg) (fun _ hk=>⟨Nat.lt_of_lt_of_le hk.1 hg.size,hk.2⟩) r A h
theorem Kids.lt {b B:Nat} {w:World} {A:Option Addr} {r:Re} (h:Kids (Off b B) w A r):Kids (Lt B) w A r:=z05 (fun _ _=>rfl) (fun _ hk=>hk.1) r A h
theorem Kids.mk_off {b:Nat} {w w':World} {A:Option Addr} {r:Re} (h:Kids (Lt w.heap.size) w A r) (hb:Below w.heap.size w w') (hn:w.heap.size≤b):Kids (Off b w'.heap.size) w' A r:=
 z05 (z7h hb) (fun k hk=>⟨Nat.lt_of_lt_of_le hk hb.size,fun e=>by unfold Lt at hk;omega⟩) r A h
def Shp (b:Nat) (w:World) (g:Nat):Prop:=w.cell? ⟨b,0,none⟩=some (.int .i64 g)∧w.frozen? ⟨b,0,none⟩=false
theorem y7d {b:Nat} {w:World} {g:Nat} (h:Shp b w g):b<w.heap.size:=World.block_lt_of_cell? w _ h.1
theorem Shp.below {b:Nat} {w w':World} {g:Nat} (h:Shp b w g) (hb:Below w.heap.size w w'):Shp b w' g:=
 ⟨(hb.cell (p:=⟨b,0,none⟩) (y7d h)).trans h.1,(hb.frozen (p:=⟨b,0,none⟩) (y7d h)).trans h.2⟩
theorem x17 {b g:Nat} {w:World} (h:Shp b w g) (g':Nat) (q:Nat):Shp b ((w.setCell ⟨b,0,none⟩ (.int .i64 ((g':Int)+1))).drewN q) (g'+1):=by
 obtain⟨h1,h2⟩:=h;refine⟨?_,?_⟩
 ·show (w.setCell ⟨b,0,none⟩ (.int .i64 ((g':Int)+1))).cell? ⟨b,0,none⟩=_
  simp[go_sem,h1]
 ·show (w.setCell ⟨b,0,none⟩ (.int .i64 ((g':Int)+1))).frozen? ⟨b,0,none⟩=_
  simp[go_sem,h2]
theorem z0d (b q:Nat) (w:World):w.grownBy (w.drewN q) (some b):=⟨rfl,rfl,rfl,Nat.le_refl _,fun _ _ _=>rfl⟩
def PostF (b:Nat) (w:World) (R:Option Nat) (e:Ending) (w':World):Prop:=w.grownBy w' (some b)∧match R with
 | none=>e= .returned (.bool false)
 | some g'=>e= .returned (.bool true)∧Shp b w' g'
def FitsC (r:Re):Prop:=∀ (b g:Nat) (A:Option Addr) (c lv d:Nat) (w:World),Kids (Off b w.heap.size) w A r→Shp b w g→lv≤3→d≤64→g+sizeE r≤1000000→
 Calls Tryd.prog 36 #[.pointer (some ⟨b,0,none⟩),valR r A c,.int .i64 lv,.int .i64 d] w (PostF b w (form r lv d g))
theorem y4p {b:Nat} {w wr:World} {A:Option Addr} {r x:Re} {j:Nat} (h:Kids (Off b w.heap.size) w A r) (hg:w.grownBy wr (some b)) (hx:r.kids[j]?=some x):
  ∃ ad A' c',A=some ad∧Off b w.heap.size ad.block∧At9 wr (ad.add (j * 9)) x A' c'∧Kids (Off b w.heap.size) w A' x:=by
 obtain⟨ad,A',c',rfl,hp,h9,hkr⟩:=z2t h hx;exact⟨ad,A',c',rfl,hp,h9.keep (fun o=>z79 hg _ (by show Off _ _ (ad.add (j * 9)).block;rw[z0j];exact hp)) (z79 hg _ (by rw[z0j];exact hp)),hkr⟩
theorem z2q {b:Nat} {w:World} {R:Option Nat} (h:R=none) {e:Ending} {w':World} (he:e= .returned (.bool false)) (hg:w.grownBy w' (some b)):PostF b w R e w':=by subst h;exact⟨hg,he⟩
theorem z7z {b:Nat} {w:World} {R:Option Nat} {g:Nat} (h:R=some g) {e:Ending} {w':World} (he:e= .returned (.bool true)) (hs:Shp b w' g) (hg:w.grownBy w' (some b)):PostF b w R e w':=by subst h;exact⟨hg,he,hs⟩
theorem y9o (r:Re):FitsC r:=by
 induction r using Re.ind with
 | h k S ks lo hi n ih=>
   intro b g A c lv d w hk hs hlv hd hsz;obtain⟨R,hR⟩:∃ R,R=form (.mk k S ks lo hi n) lv d g:=⟨_,rfl⟩;rw[←hR];rw[form] at hR;have hmx:=z00 ks;rw[sizeE] at hsz;have hblt:=y7d hs;obtain⟨m,hm⟩:∃ m,m=ks.length:=⟨_,rfl⟩;have hm9:m≤1000000:=by omega
   obtain⟨t,ht⟩:∃ t,t=told (.mk k S ks lo hi n):=⟨_,rfl⟩;rw[←ht] at hR;obtain⟨L,hL⟩:∃ L,L=lev k:=⟨_,rfl⟩;rw[←hL] at hR;have K29:Hid (∀ w,Calls Tryd.prog 47 #[.int .i64 k] w fun e w'=>e= .returned (.int .i64 L)∧w=w'):=Lib.hid (by rw[hL];exact y1n k);have K30:∀ w2,Below w.heap.size w w2→Calls Tryd.prog 48 #[valR (.mk k S ks lo hi n) A c] w2 fun e w'=>e= .returned (.bool t)∧Below w2.heap.size w2 w':=fun w2 h2=>by rw[ht];exact y8t _ A c w2 (hk.lt.next h2)
   simp only[valR] at K30 ⊢;rw[←hm] at K30 ⊢;have HK30:=Lib.hid K30;obtain⟨s0,hs0⟩:∃ s0:Int,s0=S.1.toNat:=⟨_,rfl⟩;obtain⟨s1,hs1⟩:∃ s1:Int,s1=S.2.1.toNat:=⟨_,rfl⟩;obtain⟨s2,hs2⟩:∃ s2:Int,s2=S.2.2.1.toNat:=⟨_,rfl⟩;obtain⟨s3,hs3⟩:∃ s3:Int,s3=S.2.2.2.toNat:=⟨_,rfl⟩;rw[←hs0,←hs1,←hs2,←hs3] at HK30 ⊢;clear K30 hs0 hs1 hs2 hs3;have HK:=Lib.hid hk;have HS:=Lib.hid hs;have HI:=Lib.hid ih;have HM:=Lib.hid hm;have HSZ:=Lib.hid hsz;clear hk hs ih hm hmx hsz;by_cases h1:L≤lv
   ·cases t with
    | false=>
      rw[if_neg (by simp)] at hR;have HR:=Lib.hid hR;clear hR ht hL;go_enter Tryd.func36,Tryd.ntmps36;go_wp2_with (first | (go_at_call 47;((with_reducible refine(K29.out _).mono ?_));rintro e w' ⟨rfl,rfl⟩) | (go_at_call 48;((with_reducible refine(HK30.out _ ((z0b _ _))).mono ?_));rintro e w1 ⟨rfl,hb1⟩));go_ret;exact z2q HR.out rfl (z0f ((z0b _ _).trans (hb1.mono (by simp))))
    | true=>
      rw[if_pos ⟨h1,rfl⟩] at hR;have hne:¬ b=w.heap.size:=by omega
      have q1:decide (lv<L)=false:=by simp;omega
      have q2:decide ((lv:Int)<(L:Int))=false:=by simp;omega
      have hne2:¬ w.heap.size=b:=by omega
      have HF:Hid (∀ w1,Below (w.heap.size+1) (w.alloc (.cells #[.int .i64 k,.int .u64 s0,.int .u64 s1,.int .u64 s2,.int .u64 s3,.slice A m c,.int .i64 lo,.int .i64 hi,.int .i64 n] 27)) w1→w1.cell? ⟨w.heap.size,0,none⟩=some (.int .i64 k)∧w1.cell? ⟨w.heap.size,5,none⟩=some (.slice A m c)∧w1.cell? ⟨w.heap.size,8,none⟩=some (.int .i64 n)∧Shp b w1 g∧w.heap.size<w1.heap.size):=by
       apply Lib.hid;intro w1 hb1;have hc:∀ o,w1.cell? ⟨w.heap.size,o,none⟩=(w.alloc (.cells #[.int .i64 k,.int .u64 s0,.int .u64 s1,.int .u64 s2,.int .u64 s3,.slice A m c,.int .i64 lo,.int .i64 hi,.int .i64 n] 27)).cell? ⟨w.heap.size,o,none⟩:=fun o=>hb1.cell (p:=⟨w.heap.size,o,none⟩) (by show w.heap.size<w.heap.size+1;omega)
       refine⟨(hc _).trans (by simp[go_sem]),(hc _).trans (by simp[go_sem]),(hc _).trans (by simp[go_sem]),(HS.out.below (z0b _ _)).below (hb1.mono (by simp)),?_⟩;have:=hb1.size;simp at this;omega
      have HG1:Hid (∀ w1,Below (w.heap.size+1) (w.alloc (.cells #[.int .i64 k,.int .u64 s0,.int .u64 s1,.int .u64 s2,.int .u64 s3,.slice A m c,.int .i64 lo,.int .i64 hi,.int .i64 n] 27)) w1→w.grownBy w1 (some b)):=Lib.hid fun w1 hb1=>z0f ((z0b _ _).trans (hb1.mono (by omega)))
      by_cases k7:k=7
      ·rw[if_pos k7] at hR
       have b7:(k==7)=true:=by simp[k7]
       have K31:Hid (∀ w,Calls Tryd.prog 49 #[.int .i64 ((g:Int)+1)] w fun e w'=>e= .returned (.int .i64 (num (g+1)))∧w'=w):=Lib.hid fun w2=>by
        have:=x2b (g+1) (by have:=HSZ.out;omega) w2;rw[show ((g+1:Nat):Int)=(g:Int)+1 by omega] at this;exact this.mono fun e w' ⟨h,h'⟩=>⟨h,h'.symm⟩
       obtain⟨N,hN⟩:∃ N,N=num (g+1):=⟨_,rfl⟩;rw[←hN] at hR K31;have hgb:(g:Int)≤1000000:=by have:=HSZ.out;omega
       by_cases hn:n=N
       ·have bn:(n != N)=false:=by simp[hn]
        by_cases hd64:d<64
        ·rw[if_pos ⟨hn,hd64⟩] at hR
         have HR:=Lib.hid hR;have q3:decide ((64:Int)<(d:Int)+1)=false:=by simp;omega
         have q4:decide (64<d+1)=false:=by simp;omega
         have Hk:Hid (levK k=3):=Lib.hid (by rw[k7];rfl)
         have K32:Hid (∀ w,Calls Tryd.prog 50 #[.int .i64 k] w fun e w'=>e= .returned (.int .i64 3)∧w'=w):=Lib.hid fun w2=>by
          have:=z73 k w2;rw[k7] at this ⊢;exact this.mono fun e w' ⟨h,h'⟩=>⟨h,h'.symm⟩
         clear hR ht hL hn k7 hN;go_enter Tryd.func36,Tryd.ntmps36;go_wp2_with (first | (go_at_call 47;((with_reducible refine(K29.out _).mono ?_));rintro e w' ⟨rfl,rfl⟩) | (go_at_call 48;((with_reducible refine(HK30.out _ ((z0b _ _))).mono ?_));rintro e w1 ⟨rfl,hb1⟩;have H1:=Lib.hid (show Below (w.heap.size+1) _ _ from(by simpa using hb1));obtain⟨f0,f5,f8,⟨fs,ff⟩,fl⟩:=HF.out _ H1.out;clear hb1));go_wp2;go_quiet ((go_at_call 49;with_reducible exact Calls.quiet_of_same (K31.out _)));go_wp2
         go_loopw [48] (fun i wr=>∃ j gj:Nat,j≤m∧i= .int .i64 j∧formL (ks.take j) 3 (d+1) (g+1)=some gj∧Shp b wr gj∧(w.alloc (.cells #[.int .i64 k,.int .u64 s0,.int .u64 s1,.int .u64 s2,.int .u64 s3,.slice A m c,.int .i64 lo,.int .i64 hi,.int .i64 n] 27)).grownBy wr (some b)) (fun i _=>m - (intOf i).toNat)
         case atStart=>exact⟨0,(g+1),by omega,rfl,rfl,x17 ⟨fs,ff⟩ _ nq,z0a (z0f (by simpa using H1.out)) (z0a (z0h b 0 _ _) (z0d b nq _))⟩
         case round=>
          obtain⟨j,gj,hj,rfl,hf,⟨hs1,hs2⟩,hg1⟩:=hrel;have hbb:w.grownBy wr (some b):=z0a (z0f (z0b _ _)) hg1;have c0:wr.cell? ⟨w.heap.size,0,none⟩=some (.int .i64 k):=hg1.cell (a:=⟨w.heap.size,0,none⟩) (by simp[go_sem]) (fun e=>hne2 (by injection e));have c0a:∀ o,(wr.alloc o).cell? ⟨w.heap.size,0,none⟩=some (.int .i64 k):=fun o=>(World.cell?_alloc_lt wr o ⟨w.heap.size,0,none⟩ (World.block_lt_of_cell? wr _ c0)).trans c0
          have hsz:=hg1.size;have HG:=Lib.hid hg1;have HF1:=Lib.hid hf;clear hg1 hf f0 f5 f8 fs ff;by_cases a:j<m
          ·obtain⟨r,hr⟩:=z0u HM.out a
           obtain⟨ad,A',c',rfl,hp,h9,hkr⟩:=y4p HK.out hbb hr;have hmem:=List.mem_of_getElem? hr
           have hgle:gj+sizeE r≤1000000:=by
            have h1:=HSZ.out;have h2:=z1c hr;have h3:=z06 ks (j+1);have h4:=z8t _ _ _ _ _ HF1.out;omega
           have HX:=Lib.hid (z7k hr HF1.out);obtain⟨R2,hR2⟩:∃ R2,R2=form r 3 (d+1) gj:=⟨_,rfl⟩
           have K:∀ w2,w.grownBy w2 (some b)→Shp b w2 gj→Calls Tryd.prog 36 #[.pointer (some ⟨b,0,none⟩),valR r A' c',.int .i64 (3:Nat),.int .i64 ((d+1):Nat)] w2 (PostF b w2 R2):=fun w2 h2 h3=>by
            rw[hR2];exact HI.out r hmem b gj A' c' 3 (d+1) w2 (hkr.off h2) h3 (by omega) (by omega) hgle
           rw[←hR2] at HX
           push_cast at K
           obtain⟨k',S',ks',lo',hi',n'⟩:=r;simp only[valR] at K;have HKC:=Lib.hid K;obtain⟨d0,d1,d2,d3,d4,d5,d6,d7,d8⟩:=h9;clear hr hkr hmem K hR2;go_wp2;refine z0t 6 (by kernel_rfl) (by kernel_rfl) ?_;simp only[List.take_succ_cons,List.take_zero,List.drop_succ_cons,List.drop_zero]
           repeat (first | go_big_quiet_step (fail) | (go_big_quiet_want;go_big_quiet_op;refine⟨_,K32.out _,?_⟩;go_big_quiet_on))
           refine wpQuiet_nil ?_;have hB2:w.grownBy (wr.alloc (.cells #[.int .i64 k',.int .u64 S'.1.toNat,.int .u64 S'.2.1.toNat,.int .u64 S'.2.2.1.toNat,.int .u64 S'.2.2.2.toNat,.slice A' ks'.length c',.int .i64 lo',.int .i64 hi',.int .i64 n'] 27)).drew (some b):=z0a hbb (z0a (World.grownBy_alloc _ _ _) (z4h _ _));have hS2:Shp b (wr.alloc (.cells #[.int .i64 k',.int .u64 S'.1.toNat,.int .u64 S'.2.1.toNat,.int .u64 S'.2.2.1.toNat,.int .u64 S'.2.2.2.toNat,.slice A' ks'.length c',.int .i64 lo',.int .i64 hi',.int .i64 n'] 27)).drew gj:=(show Shp b (wr.alloc _) gj from Shp.below ⟨hs1,hs2⟩ (z0b _ _));have HB2:=Lib.hid hB2;have HS2:=Lib.hid hS2;clear hB2 hS2
           cases R2 with
           | none=>
             have HX2:Hid (R=none):=Lib.hid (by rw[HR.out];exact z7m HX.out);go_wp2_with (go_at_call 36;((with_reducible refine(HKC.out _ HB2.out HS2.out).mono ?_));rintro e w5 ⟨hg5,rfl⟩);go_ret;exact z2q HX2.out rfl (z0a HB2.out hg5)
           | some g2=>
             go_wp2_with (go_at_call 36;((with_reducible refine(HKC.out _ HB2.out HS2.out).mono ?_));rintro e w5 ⟨hg5,rfl,hs5⟩)
             go_roundw
             case rel=>exact⟨j+1,g2,by omega,by go_num,HX.out,hs5,z0a HG.out (z0a (z0a (World.grownBy_alloc _ _ _) (z4h _ _)) hg5)⟩
             case measure=>simp[intOf];omega
          ·have HX2:Hid (R=some gj):=Lib.hid (by rw[HR.out,z99 (k:=j) (by have:=HM.out;omega)];exact HF1.out)
           go_wp2;go_ret;exact z7z HX2.out rfl ⟨hs1,hs2⟩ hbb
        ·rw[if_neg (fun h=>hd64 h.2)] at hR
         have HR:=Lib.hid hR;clear hR ht hL hn k7 hN;go_enter Tryd.func36,Tryd.ntmps36;go_wp2_with (first | (go_at_call 47;((with_reducible refine(K29.out _).mono ?_));rintro e w' ⟨rfl,rfl⟩) | (go_at_call 48;((with_reducible refine(HK30.out _ ((z0b _ _))).mono ?_));rintro e w1 ⟨rfl,hb1⟩;have H1:=Lib.hid (show Below (w.heap.size+1) _ _ from(by simpa using hb1));obtain⟨f0,f5,f8,⟨fs,ff⟩,fl⟩:=HF.out _ H1.out;clear hb1));go_wp2;go_quiet ((go_at_call 49;with_reducible exact Calls.quiet_of_same (K31.out _)));go_wp2;go_ret;exact z2q HR.out rfl (z0a (z0a (HG1.out _ H1.out) (z0h b 0 _ _)) (z0d b nq _))
       ·rw[if_neg (fun h=>hn h.1)] at hR
        have bn:(n != N)=true:=by simp[hn]
        have HR:=Lib.hid hR;clear hR ht hL hn k7 hN;go_enter Tryd.func36,Tryd.ntmps36;go_wp2_with (first | (go_at_call 47;((with_reducible refine(K29.out _).mono ?_));rintro e w' ⟨rfl,rfl⟩) | (go_at_call 48;((with_reducible refine(HK30.out _ ((z0b _ _))).mono ?_));rintro e w1 ⟨rfl,hb1⟩;have H1:=Lib.hid (show Below (w.heap.size+1) _ _ from(by simpa using hb1));obtain⟨f0,f5,f8,⟨fs,ff⟩,fl⟩:=HF.out _ H1.out;clear hb1));go_wp2;go_quiet ((go_at_call 49;with_reducible exact Calls.quiet_of_same (K31.out _)));go_wp2;go_ret;exact z2q HR.out rfl (z0a (z0a (HG1.out _ H1.out) (z0h b 0 _ _)) (z0d b nq _))
      ·rw[if_neg k7] at hR
       have b7:(k==7)=false:=by simp[k7]
       have HR:=Lib.hid hR;obtain⟨lk,hlk⟩:∃ lk,lk=levK k:=⟨_,rfl⟩
       have K32:Hid (∀ w,Calls Tryd.prog 50 #[.int .i64 k] w fun e w'=>e= .returned (.int .i64 lk)∧w'=w):=Lib.hid fun w2=>by
        rw[hlk];exact(z73 k w2).mono fun e w' ⟨h,h'⟩=>⟨h,h'.symm⟩
       have hlk3:lk≤3:=by rw[hlk];unfold levK;split <;> (try split) <;> (try split) <;> omega
       rw[←hlk] at HR;clear hR ht hL k7 hlk;go_enter Tryd.func36,Tryd.ntmps36;go_wp2_with (first | (go_at_call 47;((with_reducible refine(K29.out _).mono ?_));rintro e w' ⟨rfl,rfl⟩) | (go_at_call 48;((with_reducible refine(HK30.out _ ((z0b _ _))).mono ?_));rintro e w1 ⟨rfl,hb1⟩;have H1:=Lib.hid (show Below (w.heap.size+1) _ _ from(by simpa using hb1));obtain⟨f0,f5,f8,⟨fs,ff⟩,fl⟩:=HF.out _ H1.out;clear hb1));go_wp2
       go_loopw [48] (fun i wr=>∃ j gj:Nat,j≤m∧i= .int .i64 j∧formL (ks.take j) lk d g=some gj∧Shp b wr gj∧(w.alloc (.cells #[.int .i64 k,.int .u64 s0,.int .u64 s1,.int .u64 s2,.int .u64 s3,.slice A m c,.int .i64 lo,.int .i64 hi,.int .i64 n] 27)).grownBy wr (some b)) (fun i _=>m - (intOf i).toNat)
       case atStart=>exact⟨0,g,by omega,rfl,rfl,⟨fs,ff⟩,(z0f (by simpa using H1.out))⟩
       case round=>
        obtain⟨j,gj,hj,rfl,hf,⟨hs1,hs2⟩,hg1⟩:=hrel;have hbb:w.grownBy wr (some b):=z0a (z0f (z0b _ _)) hg1;have c0:wr.cell? ⟨w.heap.size,0,none⟩=some (.int .i64 k):=hg1.cell (a:=⟨w.heap.size,0,none⟩) (by simp[go_sem]) (fun e=>hne2 (by injection e));have c0a:∀ o,(wr.alloc o).cell? ⟨w.heap.size,0,none⟩=some (.int .i64 k):=fun o=>(World.cell?_alloc_lt wr o ⟨w.heap.size,0,none⟩ (World.block_lt_of_cell? wr _ c0)).trans c0
        have hsz:=hg1.size;have HG:=Lib.hid hg1;have HF1:=Lib.hid hf;clear hg1 hf f0 f5 f8 fs ff;by_cases a:j<m
        ·obtain⟨r,hr⟩:=z0u HM.out a
         obtain⟨ad,A',c',rfl,hp,h9,hkr⟩:=y4p HK.out hbb hr;have hmem:=List.mem_of_getElem? hr
         have hgle:gj+sizeE r≤1000000:=by
          have h1:=HSZ.out;have h2:=z1c hr;have h3:=z06 ks (j+1);have h4:=z8t _ _ _ _ _ HF1.out;omega
         have HX:=Lib.hid (z7k hr HF1.out);obtain⟨R2,hR2⟩:∃ R2,R2=form r lk d gj:=⟨_,rfl⟩
         have K:∀ w2,w.grownBy w2 (some b)→Shp b w2 gj→Calls Tryd.prog 36 #[.pointer (some ⟨b,0,none⟩),valR r A' c',.int .i64 (lk:Nat),.int .i64 (d:Nat)] w2 (PostF b w2 R2):=fun w2 h2 h3=>by
          rw[hR2];exact HI.out r hmem b gj A' c' lk d w2 (hkr.off h2) h3 (by omega) (by omega) hgle
         rw[←hR2] at HX;obtain⟨k',S',ks',lo',hi',n'⟩:=r;simp only[valR] at K;have HKC:=Lib.hid K;obtain⟨d0,d1,d2,d3,d4,d5,d6,d7,d8⟩:=h9;clear hr hkr hmem K hR2;go_wp2;refine z0t 6 (by kernel_rfl) (by kernel_rfl) ?_;simp only[List.take_succ_cons,List.take_zero,List.drop_succ_cons,List.drop_zero]
         repeat (first | go_big_quiet_step (fail) | (go_big_quiet_want;go_big_quiet_op;refine⟨_,K32.out _,?_⟩;go_big_quiet_on))
         refine wpQuiet_nil ?_;have hB2:w.grownBy (wr.alloc (.cells #[.int .i64 k',.int .u64 S'.1.toNat,.int .u64 S'.2.1.toNat,.int .u64 S'.2.2.1.toNat,.int .u64 S'.2.2.2.toNat,.slice A' ks'.length c',.int .i64 lo',.int .i64 hi',.int .i64 n'] 27)).drew (some b):=z0a hbb (z0a (World.grownBy_alloc _ _ _) (z4h _ _));have hS2:Shp b (wr.alloc (.cells #[.int .i64 k',.int .u64 S'.1.toNat,.int .u64 S'.2.1.toNat,.int .u64 S'.2.2.1.toNat,.int .u64 S'.2.2.2.toNat,.slice A' ks'.length c',.int .i64 lo',.int .i64 hi',.int .i64 n'] 27)).drew gj:=(show Shp b (wr.alloc _) gj from Shp.below ⟨hs1,hs2⟩ (z0b _ _));have HB2:=Lib.hid hB2;have HS2:=Lib.hid hS2;clear hB2 hS2
         cases R2 with
         | none=>
           have HX2:Hid (R=none):=Lib.hid (by rw[HR.out];exact z7m HX.out);go_wp2_with (go_at_call 36;((with_reducible refine(HKC.out _ HB2.out HS2.out).mono ?_));rintro e w5 ⟨hg5,rfl⟩);go_ret;exact z2q HX2.out rfl (z0a HB2.out hg5)
         | some g2=>
           go_wp2_with (go_at_call 36;((with_reducible refine(HKC.out _ HB2.out HS2.out).mono ?_));rintro e w5 ⟨hg5,rfl,hs5⟩)
           go_roundw
           case rel=>exact⟨j+1,g2,by omega,by go_num,HX.out,hs5,z0a HG.out (z0a (z0a (World.grownBy_alloc _ _ _) (z4h _ _)) hg5)⟩
           case measure=>simp[intOf];omega
        ·have HX2:Hid (R=some gj):=Lib.hid (by rw[HR.out,z99 (k:=j) (by have:=HM.out;omega)];exact HF1.out)
         go_wp2;go_ret;exact z7z HX2.out rfl ⟨hs1,hs2⟩ hbb
   ·rw[if_neg (fun h=>h1 h.1)] at hR
    have HR:=Lib.hid hR;clear hR ht hL;go_enter Tryd.func36,Tryd.ntmps36;go_wp2_with (go_at_call 47;((with_reducible refine(K29.out _).mono ?_));rintro e w' ⟨rfl,rfl⟩);go_ret;exact z2q HR.out rfl (z0f (z0b _ _))
end Go.Proofs.YtejgbpbljdhndaaDoor
