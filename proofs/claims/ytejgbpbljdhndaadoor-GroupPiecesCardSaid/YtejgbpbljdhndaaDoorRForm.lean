import Derived.Test.YtejgbpbljdhndaaDoorFormP
import Derived.Test.YtejgbpbljdhndaaDoorRSame
namespace Go.Proofs.YtejgbpbljdhndaaDoor
open Go Go.RowKit
set_option maxRecDepth 100000
set_option maxHeartbeats 4000000
theorem z2n (S:S4) (w:World):(binOp .neq 24 (.agg #[.int .u64 0,.int .u64 0,.int .u64 0,.int .u64 0]) (.agg #[.int .u64 S.1.toNat,.int .u64 S.2.1.toNat,.int .u64 S.2.2.1.toNat,.int .u64 S.2.2.2.toNat])).run Tryd.prog w= .ok (.bool (!decide (none4=S))) w:=z2v none4 S w
def PostFR (w:World) (R:Option Nat) (e:Ending) (w':World):Prop:=(match R with
 | none=>∃ z:Int,e= .returned (.tuple #[.bool false,.int .i64 z])
 | some g'=>e= .returned (.tuple #[.bool true,.int .i64 g']))∧Below w.heap.size w w'
theorem z0i {w w':World} {R:Option Nat} {v:Value} {z:Int} (h:R=none) (hv:v= .tuple #[.bool false,.int .i64 z]) (hb:Below w.heap.size w w'):PostFR w R (.returned v) w':=by subst h hv;exact⟨⟨_,rfl⟩,hb⟩
theorem z21 {w w':World} {R:Option Nat} {v:Value} {g:Nat} (h:R=some g) (hv:v= .tuple #[.bool true,.int .i64 g]) (hb:Below w.heap.size w w'):PostFR w R (.returned v) w':=by subst h hv;exact⟨rfl,hb⟩
def FormC (r:Re):Prop:=∀ (A:Option Addr) (c level d g:Nat) (w:World),Kids (Lt w.heap.size) w A r→level≤4→d≤64→g+sizeE r≤1000000→
 Calls Tryd.prog 44 #[valR r A c,.int .i64 level,.int .i64 d,.int .i64 g] w (PostFR w (formR r level d g))
theorem y4d (S:S4) (ks:List Re) (lo hi n:Int):FormC (.mk 1 S ks lo hi n):=by
 intro A c level d g w hk hlev hd hsz;obtain⟨R,hR⟩:∃ R,R=formR (.mk 1 S ks lo hi n) level d g:=⟨_,rfl⟩;rw[←hR];obtain⟨m,hm⟩:∃ m,m=ks.length:=⟨_,rfl⟩;have hz1:=fun W=>z2n S W
 have hz2:∀ W,(binOp .neq 24 (.agg #[.int .u64 S.1.toNat,.int .u64 S.2.1.toNat,.int .u64 S.2.2.1.toNat,.int .u64 S.2.2.2.toNat]) (.agg #[.int .u64 S.1.toNat,.int .u64 S.2.1.toNat,.int .u64 S.2.2.1.toNat,.int .u64 S.2.2.2.toNat])).run Tryd.prog W= .ok (.bool false) W:=fun W=>by rw[z2v];simp
 have hmx:=z00 ks;rw[sizeE] at hsz;have hm9:m≤1000000:=by omega
 have hg9:g≤1000000:=by omega
 simp only[valR];rw[←hm];obtain⟨s0,hs0⟩:∃ s0:Int,s0=S.1.toNat:=⟨_,rfl⟩;obtain⟨s1,hs1⟩:∃ s1:Int,s1=S.2.1.toNat:=⟨_,rfl⟩;obtain⟨s2,hs2⟩:∃ s2:Int,s2=S.2.2.1.toNat:=⟨_,rfl⟩;obtain⟨s3,hs3⟩:∃ s3:Int,s3=S.2.2.2.toNat:=⟨_,rfl⟩;rw[←hs0,←hs1,←hs2,←hs3] at hz1 hz2 ⊢;have HK:=Lib.hid hk;have HM:=Lib.hid hm;have HSZ:=Lib.hid hsz;have HR:=Lib.hid hR
 skip
 clear hk hs0 hs1 hs2 hs3 hm hsz hR hmx;by_cases hlo:lo=0
 ·skip
  have glo:(0 != lo)=false:=by simp[hlo]
  have glo2:(lo != 0)=false:=by simp[hlo]
  by_cases hhi:hi=0
  ·skip
   have ghi:(0 != hi)=false:=by simp[hhi]
   have ghi2:(hi != 0)=false:=by simp[hhi]
   by_cases hn:n=0
   ·skip
    have gn:(0 != n)=false:=by simp[hn]
    have gn2:(n != 0)=false:=by simp[hn]
    by_cases hm0:m=0
    ·skip
     have qm1:decide ((0:Int)<(m:Int))=false:=by simp;omega
     have qm2:decide (0<m)=false:=by simp;omega
     have hks:ks=[]:=List.length_eq_zero_iff.1 (by rw[←HM.out];exact hm0);have HX:Hid (R=some g):=Lib.hid (by rw[HR.out,z3w,if_pos ⟨hlo,hhi,hn,hks⟩]);clear HR hks hlo hhi hn;subst hm0;go_enter Tryd.func44,Tryd.ntmps44;go_wp2
     all_goals (
      go_ret2
      exact z21 HX.out rfl (z0e _ _ _))
    ·skip
     have qm1:decide ((0:Int)<(m:Int))=true:=by simp;omega
     have qm2:decide (0<m)=true:=by simp;omega
     have HX:Hid (R=none):=Lib.hid (by rw[HR.out,z3w,if_neg (fun h=>hm0 (by rw[HM.out,h.2.2.2];rfl))]);clear HR hlo hhi hn hm0;go_enter Tryd.func44,Tryd.ntmps44;go_wp2
     go_ret2
     exact z0i HX.out rfl (z0e _ _ _)
   ·skip
    have gn:(0 != n)=true:=by simp;omega
    have gn2:(n != 0)=true:=by simp;omega
    have HX:Hid (R=none):=Lib.hid (by rw[HR.out,z3w,if_neg (fun h=>hn h.2.2.1)]);clear HR hlo hhi hn;go_enter Tryd.func44,Tryd.ntmps44;go_wp2
    go_ret2
    exact z0i HX.out rfl (z0e _ _ _)
  ·skip
   have ghi:(0 != hi)=true:=by simp;omega
   have ghi2:(hi != 0)=true:=by simp;omega
   have HX:Hid (R=none):=Lib.hid (by rw[HR.out,z3w,if_neg (fun h=>hhi h.2.1)]);clear HR hlo hhi;go_enter Tryd.func44,Tryd.ntmps44;go_wp2
   go_ret2
   exact z0i HX.out rfl (z0e _ _ _)
 ·skip
  have glo:(0 != lo)=true:=by simp;omega
  have glo2:(lo != 0)=true:=by simp;omega
  have HX:Hid (R=none):=Lib.hid (by rw[HR.out,z3w,if_neg (fun h=>hlo h.1)]);clear HR hlo;go_enter Tryd.func44,Tryd.ntmps44;go_wp2
  go_ret2
  exact z0i HX.out rfl (z0e _ _ _)
theorem y5z (S:S4) (ks:List Re) (lo hi n:Int):FormC (.mk 2 S ks lo hi n):=by
 intro A c level d g w hk hlev hd hsz;obtain⟨R,hR⟩:∃ R,R=formR (.mk 2 S ks lo hi n) level d g:=⟨_,rfl⟩;rw[←hR];obtain⟨m,hm⟩:∃ m,m=ks.length:=⟨_,rfl⟩;have hz1:=fun W=>z2n S W
 have hz2:∀ W,(binOp .neq 24 (.agg #[.int .u64 S.1.toNat,.int .u64 S.2.1.toNat,.int .u64 S.2.2.1.toNat,.int .u64 S.2.2.2.toNat]) (.agg #[.int .u64 S.1.toNat,.int .u64 S.2.1.toNat,.int .u64 S.2.2.1.toNat,.int .u64 S.2.2.2.toNat])).run Tryd.prog W= .ok (.bool false) W:=fun W=>by rw[z2v];simp
 have hmx:=z00 ks;rw[sizeE] at hsz;have hm9:m≤1000000:=by omega
 have hg9:g≤1000000:=by omega
 simp only[valR];rw[←hm];obtain⟨s0,hs0⟩:∃ s0:Int,s0=S.1.toNat:=⟨_,rfl⟩;obtain⟨s1,hs1⟩:∃ s1:Int,s1=S.2.1.toNat:=⟨_,rfl⟩;obtain⟨s2,hs2⟩:∃ s2:Int,s2=S.2.2.1.toNat:=⟨_,rfl⟩;obtain⟨s3,hs3⟩:∃ s3:Int,s3=S.2.2.2.toNat:=⟨_,rfl⟩;rw[←hs0,←hs1,←hs2,←hs3] at hz1 hz2 ⊢;have HK:=Lib.hid hk;have HM:=Lib.hid hm;have HSZ:=Lib.hid hsz;have HR:=Lib.hid hR
 skip
 clear hk hs0 hs1 hs2 hs3 hm hsz hR hmx;by_cases hS:none4=S
 ·skip
  have gS:(!decide (none4=S))=false:=by simp[hS]
  simp only[gS] at hz1;clear gS;by_cases hlo:lo=0
  ·skip
   have glo:(0 != lo)=false:=by simp[hlo]
   have glo2:(lo != 0)=false:=by simp[hlo]
   by_cases hhi:hi=0
   ·skip
    have ghi:(0 != hi)=false:=by simp[hhi]
    have ghi2:(hi != 0)=false:=by simp[hhi]
    by_cases hn:n=0
    ·skip
     have gn:(0 != n)=false:=by simp[hn]
     have gn2:(n != 0)=false:=by simp[hn]
     by_cases hm0:m=0
     ·skip
      have qm1:decide ((0:Int)<(m:Int))=false:=by simp;omega
      have qm2:decide (0<m)=false:=by simp;omega
      by_cases hl4:level≠4
      ·skip
       have q41:((level:Int)==4)=false:=by simp;omega
       have q42:(level==4)=false:=by simp;omega
       have hks:ks=[]:=List.length_eq_zero_iff.1 (by rw[←HM.out];exact hm0);have HX:Hid (R=some g):=Lib.hid (by rw[HR.out,z1i _ _ _ _ _ _ _ _ _ (.inl rfl),if_pos ⟨hS.symm,hlo,hhi,hn,hks,hl4⟩]);clear HR hks hS hlo hhi hn hl4;subst hm0;go_enter Tryd.func44,Tryd.ntmps44;go_wp2
       all_goals (
        go_ret2
        exact z21 HX.out rfl (z0e _ _ _))
      ·skip
       have q41:((level:Int)==4)=true:=by simp;omega
       have q42:(level==4)=true:=by simp;omega
       have HX:Hid (R=none):=Lib.hid (by rw[HR.out,z1i _ _ _ _ _ _ _ _ _ (.inl rfl),if_neg (fun h=>hl4 h.2.2.2.2.2)]);clear HR hS hlo hhi hn hm0 hl4;go_enter Tryd.func44,Tryd.ntmps44;go_wp2
       go_ret2
       exact z0i HX.out rfl (z0e _ _ _)
     ·skip
      have qm1:decide ((0:Int)<(m:Int))=true:=by simp;omega
      have qm2:decide (0<m)=true:=by simp;omega
      have HX:Hid (R=none):=Lib.hid (by rw[HR.out,z1i _ _ _ _ _ _ _ _ _ (.inl rfl),if_neg (fun h=>hm0 (by rw[HM.out,h.2.2.2.2.1];rfl))]);clear HR hS hlo hhi hn hm0;go_enter Tryd.func44,Tryd.ntmps44;go_wp2
      go_ret2
      exact z0i HX.out rfl (z0e _ _ _)
    ·skip
     have gn:(0 != n)=true:=by simp;omega
     have gn2:(n != 0)=true:=by simp;omega
     have HX:Hid (R=none):=Lib.hid (by rw[HR.out,z1i _ _ _ _ _ _ _ _ _ (.inl rfl),if_neg (fun h=>hn h.2.2.2.1)]);clear HR hS hlo hhi hn;go_enter Tryd.func44,Tryd.ntmps44;go_wp2
     go_ret2
     exact z0i HX.out rfl (z0e _ _ _)
   ·skip
    have ghi:(0 != hi)=true:=by simp;omega
    have ghi2:(hi != 0)=true:=by simp;omega
    have HX:Hid (R=none):=Lib.hid (by rw[HR.out,z1i _ _ _ _ _ _ _ _ _ (.inl rfl),if_neg (fun h=>hhi h.2.2.1)]);clear HR hS hlo hhi;go_enter Tryd.func44,Tryd.ntmps44;go_wp2
    go_ret2
    exact z0i HX.out rfl (z0e _ _ _)
  ·skip
   have glo:(0 != lo)=true:=by simp;omega
   have glo2:(lo != 0)=true:=by simp;omega
   have HX:Hid (R=none):=Lib.hid (by rw[HR.out,z1i _ _ _ _ _ _ _ _ _ (.inl rfl),if_neg (fun h=>hlo h.2.1)]);clear HR hS hlo;go_enter Tryd.func44,Tryd.ntmps44;go_wp2
   go_ret2
   exact z0i HX.out rfl (z0e _ _ _)
 ·skip
  have gS:(!decide (none4=S))=true:=by simp[hS]
  simp only[gS] at hz1;clear gS;have HX:Hid (R=none):=Lib.hid (by rw[HR.out,z1i _ _ _ _ _ _ _ _ _ (.inl rfl),if_neg (fun h=>hS h.1.symm)]);clear HR hS;go_enter Tryd.func44,Tryd.ntmps44;go_wp2
  go_ret2
  exact z0i HX.out rfl (z0e _ _ _)
theorem y1b (S:S4) (ks:List Re) (lo hi n:Int):FormC (.mk 3 S ks lo hi n):=by
 intro A c level d g w hk hlev hd hsz;obtain⟨R,hR⟩:∃ R,R=formR (.mk 3 S ks lo hi n) level d g:=⟨_,rfl⟩;rw[←hR];obtain⟨m,hm⟩:∃ m,m=ks.length:=⟨_,rfl⟩;have hz1:=fun W=>z2n S W
 have hz2:∀ W,(binOp .neq 24 (.agg #[.int .u64 S.1.toNat,.int .u64 S.2.1.toNat,.int .u64 S.2.2.1.toNat,.int .u64 S.2.2.2.toNat]) (.agg #[.int .u64 S.1.toNat,.int .u64 S.2.1.toNat,.int .u64 S.2.2.1.toNat,.int .u64 S.2.2.2.toNat])).run Tryd.prog W= .ok (.bool false) W:=fun W=>by rw[z2v];simp
 have hmx:=z00 ks;rw[sizeE] at hsz;have hm9:m≤1000000:=by omega
 have hg9:g≤1000000:=by omega
 simp only[valR];rw[←hm];obtain⟨s0,hs0⟩:∃ s0:Int,s0=S.1.toNat:=⟨_,rfl⟩;obtain⟨s1,hs1⟩:∃ s1:Int,s1=S.2.1.toNat:=⟨_,rfl⟩;obtain⟨s2,hs2⟩:∃ s2:Int,s2=S.2.2.1.toNat:=⟨_,rfl⟩;obtain⟨s3,hs3⟩:∃ s3:Int,s3=S.2.2.2.toNat:=⟨_,rfl⟩;rw[←hs0,←hs1,←hs2,←hs3] at hz1 hz2 ⊢;have HK:=Lib.hid hk;have HM:=Lib.hid hm;have HSZ:=Lib.hid hsz;have HR:=Lib.hid hR
 skip
 clear hk hs0 hs1 hs2 hs3 hm hsz hR hmx;by_cases hS:none4=S
 ·skip
  have gS:(!decide (none4=S))=false:=by simp[hS]
  simp only[gS] at hz1;clear gS;by_cases hlo:lo=0
  ·skip
   have glo:(0 != lo)=false:=by simp[hlo]
   have glo2:(lo != 0)=false:=by simp[hlo]
   by_cases hhi:hi=0
   ·skip
    have ghi:(0 != hi)=false:=by simp[hhi]
    have ghi2:(hi != 0)=false:=by simp[hhi]
    by_cases hn:n=0
    ·skip
     have gn:(0 != n)=false:=by simp[hn]
     have gn2:(n != 0)=false:=by simp[hn]
     by_cases hm0:m=0
     ·skip
      have qm1:decide ((0:Int)<(m:Int))=false:=by simp;omega
      have qm2:decide (0<m)=false:=by simp;omega
      by_cases hl4:level≠4
      ·skip
       have q41:((level:Int)==4)=false:=by simp;omega
       have q42:(level==4)=false:=by simp;omega
       have hks:ks=[]:=List.length_eq_zero_iff.1 (by rw[←HM.out];exact hm0);have HX:Hid (R=some g):=Lib.hid (by rw[HR.out,z1i _ _ _ _ _ _ _ _ _ (.inr rfl),if_pos ⟨hS.symm,hlo,hhi,hn,hks,hl4⟩]);clear HR hks hS hlo hhi hn hl4;subst hm0;go_enter Tryd.func44,Tryd.ntmps44;go_wp2
       all_goals (
        go_ret2
        exact z21 HX.out rfl (z0e _ _ _))
      ·skip
       have q41:((level:Int)==4)=true:=by simp;omega
       have q42:(level==4)=true:=by simp;omega
       have HX:Hid (R=none):=Lib.hid (by rw[HR.out,z1i _ _ _ _ _ _ _ _ _ (.inr rfl),if_neg (fun h=>hl4 h.2.2.2.2.2)]);clear HR hS hlo hhi hn hm0 hl4;go_enter Tryd.func44,Tryd.ntmps44;go_wp2
       go_ret2
       exact z0i HX.out rfl (z0e _ _ _)
     ·skip
      have qm1:decide ((0:Int)<(m:Int))=true:=by simp;omega
      have qm2:decide (0<m)=true:=by simp;omega
      have HX:Hid (R=none):=Lib.hid (by rw[HR.out,z1i _ _ _ _ _ _ _ _ _ (.inr rfl),if_neg (fun h=>hm0 (by rw[HM.out,h.2.2.2.2.1];rfl))]);clear HR hS hlo hhi hn hm0;go_enter Tryd.func44,Tryd.ntmps44;go_wp2
      go_ret2
      exact z0i HX.out rfl (z0e _ _ _)
    ·skip
     have gn:(0 != n)=true:=by simp;omega
     have gn2:(n != 0)=true:=by simp;omega
     have HX:Hid (R=none):=Lib.hid (by rw[HR.out,z1i _ _ _ _ _ _ _ _ _ (.inr rfl),if_neg (fun h=>hn h.2.2.2.1)]);clear HR hS hlo hhi hn;go_enter Tryd.func44,Tryd.ntmps44;go_wp2
     go_ret2
     exact z0i HX.out rfl (z0e _ _ _)
   ·skip
    have ghi:(0 != hi)=true:=by simp;omega
    have ghi2:(hi != 0)=true:=by simp;omega
    have HX:Hid (R=none):=Lib.hid (by rw[HR.out,z1i _ _ _ _ _ _ _ _ _ (.inr rfl),if_neg (fun h=>hhi h.2.2.1)]);clear HR hS hlo hhi;go_enter Tryd.func44,Tryd.ntmps44;go_wp2
    go_ret2
    exact z0i HX.out rfl (z0e _ _ _)
  ·skip
   have glo:(0 != lo)=true:=by simp;omega
   have glo2:(lo != 0)=true:=by simp;omega
   have HX:Hid (R=none):=Lib.hid (by rw[HR.out,z1i _ _ _ _ _ _ _ _ _ (.inr rfl),if_neg (fun h=>hlo h.2.1)]);clear HR hS hlo;go_enter Tryd.func44,Tryd.ntmps44;go_wp2
   go_ret2
   exact z0i HX.out rfl (z0e _ _ _)
 ·skip
  have gS:(!decide (none4=S))=true:=by simp[hS]
  simp only[gS] at hz1;clear gS;have HX:Hid (R=none):=Lib.hid (by rw[HR.out,z1i _ _ _ _ _ _ _ _ _ (.inr rfl),if_neg (fun h=>hS h.1.symm)]);clear HR hS;go_enter Tryd.func44,Tryd.ntmps44;go_wp2
  go_ret2
  exact z0i HX.out rfl (z0e _ _ _)
theorem y39 (S:S4) (ks:List Re) (lo hi n:Int):FormC (.mk 0 S ks lo hi n):=by
 intro A c level d g w hk hlev hd hsz;obtain⟨R,hR⟩:∃ R,R=formR (.mk 0 S ks lo hi n) level d g:=⟨_,rfl⟩;rw[←hR];obtain⟨m,hm⟩:∃ m,m=ks.length:=⟨_,rfl⟩;have hz1:=fun W=>z2n S W
 have hz2:∀ W,(binOp .neq 24 (.agg #[.int .u64 S.1.toNat,.int .u64 S.2.1.toNat,.int .u64 S.2.2.1.toNat,.int .u64 S.2.2.2.toNat]) (.agg #[.int .u64 S.1.toNat,.int .u64 S.2.1.toNat,.int .u64 S.2.2.1.toNat,.int .u64 S.2.2.2.toNat])).run Tryd.prog W= .ok (.bool false) W:=fun W=>by rw[z2v];simp
 have hmx:=z00 ks;rw[sizeE] at hsz;have hm9:m≤1000000:=by omega
 have hg9:g≤1000000:=by omega
 simp only[valR];rw[←hm];obtain⟨s0,hs0⟩:∃ s0:Int,s0=S.1.toNat:=⟨_,rfl⟩;obtain⟨s1,hs1⟩:∃ s1:Int,s1=S.2.1.toNat:=⟨_,rfl⟩;obtain⟨s2,hs2⟩:∃ s2:Int,s2=S.2.2.1.toNat:=⟨_,rfl⟩;obtain⟨s3,hs3⟩:∃ s3:Int,s3=S.2.2.2.toNat:=⟨_,rfl⟩;rw[←hs0,←hs1,←hs2,←hs3] at hz1 hz2 ⊢;have HK:=Lib.hid hk;have HM:=Lib.hid hm;have HSZ:=Lib.hid hsz;have HR:=Lib.hid hR
 skip
 clear hk hs0 hs1 hs2 hs3 hm hsz hR hmx;by_cases hS:none4=S
 ·skip
  have gS:(!decide (none4=S))=false:=by simp[hS]
  simp only[gS] at hz1;clear gS;by_cases hlo:lo=0
  ·skip
   have glo:(0 != lo)=false:=by simp[hlo]
   have glo2:(lo != 0)=false:=by simp[hlo]
   by_cases hhi:hi=0
   ·skip
    have ghi:(0 != hi)=false:=by simp[hhi]
    have ghi2:(hi != 0)=false:=by simp[hhi]
    by_cases hn:n=0
    ·skip
     have gn:(0 != n)=false:=by simp[hn]
     have gn2:(n != 0)=false:=by simp[hn]
     by_cases hm0:m=0
     ·skip
      have qm1:decide ((0:Int)<(m:Int))=false:=by simp;omega
      have qm2:decide (0<m)=false:=by simp;omega
      by_cases hl1:level≤1
      ·skip
       have ql1:decide ((1:Int)<(level:Int))=false:=by simp;omega
       have ql2:decide (1<level)=false:=by simp;omega
       have q41:((level:Int)==4)=false:=by simp;omega
       have q42:(level==4)=false:=by simp;omega
       have hks:ks=[]:=List.length_eq_zero_iff.1 (by rw[←HM.out];exact hm0);have HX:Hid (R=some g):=Lib.hid (by rw[HR.out,z16 _ _ _ _ _ _ _ _ hlev,if_pos ⟨hS.symm,hlo,hhi,hn,hks,hl1⟩]);clear HR hks hS hlo hhi hn hl1;subst hm0;go_enter Tryd.func44,Tryd.ntmps44;go_wp2
       all_goals (
        go_ret2
        exact z21 HX.out rfl (z0e _ _ _))
      ·skip
       have ql1:decide ((1:Int)<(level:Int))=true:=by simp;omega
       have ql2:decide (1<level)=true:=by simp;omega
       have HX:Hid (R=none):=Lib.hid (by rw[HR.out,z16 _ _ _ _ _ _ _ _ hlev,if_neg (fun h=>hl1 h.2.2.2.2.2)]);clear HR hS hlo hhi hn hm0 hl1;go_enter Tryd.func44,Tryd.ntmps44;go_wp2
       go_ret2
       exact z0i HX.out rfl (z0e _ _ _)
     ·skip
      have qm1:decide ((0:Int)<(m:Int))=true:=by simp;omega
      have qm2:decide (0<m)=true:=by simp;omega
      have HX:Hid (R=none):=Lib.hid (by rw[HR.out,z16 _ _ _ _ _ _ _ _ hlev,if_neg (fun h=>hm0 (by rw[HM.out,h.2.2.2.2.1];rfl))]);clear HR hS hlo hhi hn hm0;go_enter Tryd.func44,Tryd.ntmps44;go_wp2
      go_ret2
      exact z0i HX.out rfl (z0e _ _ _)
    ·skip
     have gn:(0 != n)=true:=by simp;omega
     have gn2:(n != 0)=true:=by simp;omega
     have HX:Hid (R=none):=Lib.hid (by rw[HR.out,z16 _ _ _ _ _ _ _ _ hlev,if_neg (fun h=>hn h.2.2.2.1)]);clear HR hS hlo hhi hn;go_enter Tryd.func44,Tryd.ntmps44;go_wp2
     go_ret2
     exact z0i HX.out rfl (z0e _ _ _)
   ·skip
    have ghi:(0 != hi)=true:=by simp;omega
    have ghi2:(hi != 0)=true:=by simp;omega
    have HX:Hid (R=none):=Lib.hid (by rw[HR.out,z16 _ _ _ _ _ _ _ _ hlev,if_neg (fun h=>hhi h.2.2.1)]);clear HR hS hlo hhi;go_enter Tryd.func44,Tryd.ntmps44;go_wp2
    go_ret2
    exact z0i HX.out rfl (z0e _ _ _)
  ·skip
   have glo:(0 != lo)=true:=by simp;omega
   have glo2:(lo != 0)=true:=by simp;omega
   have HX:Hid (R=none):=Lib.hid (by rw[HR.out,z16 _ _ _ _ _ _ _ _ hlev,if_neg (fun h=>hlo h.2.1)]);clear HR hS hlo;go_enter Tryd.func44,Tryd.ntmps44;go_wp2
   go_ret2
   exact z0i HX.out rfl (z0e _ _ _)
 ·skip
  have gS:(!decide (none4=S))=true:=by simp[hS]
  simp only[gS] at hz1;clear gS;have HX:Hid (R=none):=Lib.hid (by rw[HR.out,z16 _ _ _ _ _ _ _ _ hlev,if_neg (fun h=>hS h.1.symm)]);clear HR hS;go_enter Tryd.func44,Tryd.ntmps44;go_wp2
  go_ret2
  exact z0i HX.out rfl (z0e _ _ _)
theorem y6u (S:S4) (ks:List Re) (lo hi n:Int) (ih:∀ r∈ks,FormC r):FormC (.mk 6 S ks lo hi n):=by
 intro A c level d g w hk hlev hd hsz;obtain⟨R,hR⟩:∃ R,R=formR (.mk 6 S ks lo hi n) level d g:=⟨_,rfl⟩;rw[←hR];obtain⟨m,hm⟩:∃ m,m=ks.length:=⟨_,rfl⟩;have hz1:=fun W=>z2n S W
 have hz2:∀ W,(binOp .neq 24 (.agg #[.int .u64 S.1.toNat,.int .u64 S.2.1.toNat,.int .u64 S.2.2.1.toNat,.int .u64 S.2.2.2.toNat]) (.agg #[.int .u64 S.1.toNat,.int .u64 S.2.1.toNat,.int .u64 S.2.2.1.toNat,.int .u64 S.2.2.2.toNat])).run Tryd.prog W= .ok (.bool false) W:=fun W=>by rw[z2v];simp
 have hmx:=z00 ks;rw[sizeE] at hsz;have hm9:m≤1000000:=by omega
 have hg9:g≤1000000:=by omega
 simp only[valR];rw[←hm];obtain⟨s0,hs0⟩:∃ s0:Int,s0=S.1.toNat:=⟨_,rfl⟩;obtain⟨s1,hs1⟩:∃ s1:Int,s1=S.2.1.toNat:=⟨_,rfl⟩;obtain⟨s2,hs2⟩:∃ s2:Int,s2=S.2.2.1.toNat:=⟨_,rfl⟩;obtain⟨s3,hs3⟩:∃ s3:Int,s3=S.2.2.2.toNat:=⟨_,rfl⟩;rw[←hs0,←hs1,←hs2,←hs3] at hz1 hz2 ⊢;have HK:=Lib.hid hk;have HM:=Lib.hid hm;have HSZ:=Lib.hid hsz;have HR:=Lib.hid hR;have HI:=Lib.hid ih;clear hk hs0 hs1 hs2 hs3 hm hsz hR hmx ih;by_cases hS:none4=S
 ·skip
  have gS:(!decide (none4=S))=false:=by simp[hS]
  simp only[gS] at hz1;clear gS;by_cases hn:n=0
  ·skip
   have gn:(0 != n)=false:=by simp[hn]
   have gn2:(n != 0)=false:=by simp[hn]
   by_cases hl2:level≤2
   ·skip
    have ql1:decide ((2:Int)<(level:Int))=false:=by simp;omega
    have ql2:decide (2<level)=false:=by simp;omega
    by_cases hb0:0≤lo
    ·skip
     have qb0:decide (lo<0)=false:=by simp;omega
     by_cases hb1:lo≤8
     ·skip
      have qb1:decide (8<lo)=false:=by simp;omega
      by_cases hb2:hi≤8
      ·skip
       have qb2:decide (8<hi)=false:=by simp;omega
       by_cases hb3:(hi != -1)=false∨(hi != -1)=true∧lo≤hi
       ·skip
        have HB:Hid (bound lo hi=true):=Lib.hid (by unfold bound;simp at hb3 ⊢;omega);by_cases hm1:m=1
        ·skip
         have qm1:((m:Int) != 1)=false:=by simp;omega
         have qm2:(m != 1)=false:=by simp;omega
         have HX0:Hid (R=formLR ks 4 d g):=Lib.hid (by rw[HR.out,z1s _ _ _ _ _ _ _ _ hlev,if_pos ⟨hS.symm,hn,hl2,HB.out,by rw[←HM.out];exact hm1⟩])
         rcases hb3 with hb3 | ⟨hb3,hb4⟩
         ·skip
          have hbo:=z0b w (.cells #[.int .i64 6,.int .u64 s0,.int .u64 s1,.int .u64 s2,.int .u64 s3,.slice A m c,.int .i64 lo,.int .i64 hi,.int .i64 n] 27);have hc5:(w.alloc (.cells #[.int .i64 6,.int .u64 s0,.int .u64 s1,.int .u64 s2,.int .u64 s3,.slice A m c,.int .i64 lo,.int .i64 hi,.int .i64 n] 27)).cell? ⟨w.heap.size,5,none⟩=some (.slice A m c):=by simp[go_sem]
          clear HR hS hn hl2 hb0 hb1 hb2 hm1;go_enter Tryd.func44,Tryd.ntmps44;go_wp2
          go_loopw [3,14] (fun gv i wr=>∃ j gj:Nat,j≤m∧i= .int .i64 j∧gv= .int .i64 gj∧formLR (ks.take j) 4 d g=some gj∧Below (w.heap.size+1) (w.alloc (.cells #[.int .i64 6,.int .u64 s0,.int .u64 s1,.int .u64 s2,.int .u64 s3,.slice A m c,.int .i64 lo,.int .i64 hi,.int .i64 n] 27)) wr) (fun _ i _=>m - (intOf i).toNat)
          case atStart=>exact⟨0,g,by omega,rfl,rfl,rfl,by simpa using z0b (w.alloc (.cells #[.int .i64 6,.int .u64 s0,.int .u64 s1,.int .u64 s2,.int .u64 s3,.slice A m c,.int .i64 lo,.int .i64 hi,.int .i64 n] 27)) _⟩
          case round=>
           obtain⟨j,gj,hj,rfl,rfl,hf,hb1⟩:=hrel;have hb:Below w.heap.size w wr:=hbo.trans (hb1.mono (by omega));have c5:wr.cell? ⟨w.heap.size,5,none⟩=some (.slice A m c):=(hb1.cell (p:=⟨w.heap.size,5,none⟩) (by show w.heap.size<w.heap.size+1;omega)).trans hc5;have hb1s:=hb1.size;have HB1:=Lib.hid hb1;have HF:=Lib.hid hf;clear hb1 hf;by_cases a:j<m
           ·obtain⟨r,hr⟩:=z0u HM.out a
            obtain⟨ad,A',c',rfl,hp,h9,hkr⟩:=z3t HK.out hb hr;have hmem:=List.mem_of_getElem? hr
            have hgle:gj+sizeE r≤1000000:=by
             have h1:=HSZ.out;have h2:=z1c hr;have h3:=z06 ks (j+1);have h4:=z2u _ _ _ _ _ HF.out;omega
            have hgj:gj≤1000000:=by omega
            have HX:=Lib.hid (z15 hr HF.out);obtain⟨R2,hR2⟩:∃ R2,R2=formR r 4 d gj:=⟨_,rfl⟩;have hg2b:∀ g2,R2=some g2→g2≤1000000:=fun g2 h=>by have:=z3p (hR2.symm.trans h);omega
            have K:∀ w2,Below w.heap.size w w2→Calls Tryd.prog 44 #[valR r A' c',.int .i64 4,.int .i64 d,.int .i64 gj] w2 (PostFR w2 R2):=fun w2 h2=>by
             rw[hR2];exact HI.out r hmem A' c' 4 d gj w2 (hkr.next h2) (by omega) (by omega) hgle
            rw[←hR2] at HX
            skip
            obtain⟨k',S',ks',lo',hi',n'⟩:=r;simp only[valR] at K;have HKC:=Lib.hid K;obtain⟨d0,d1,d2,d3,d4,d5,d6,d7,d8⟩:=h9;clear hr hkr hmem K hR2 hgle
            cases R2 with
            | none=>
              have HX2:Hid (R=none):=Lib.hid (by rw[HX0.out];exact z12 HX.out);go_wp2_with (go_at_call 44;((with_reducible refine(HKC.out _ hb).mono ?_));rintro e w5 ⟨⟨z5,rfl⟩,hb5⟩)
              go_ret2
              exact z0i HX2.out rfl (hb.trans (hb5.mono hb.size))
            | some g2=>
              have hg2:=hg2b g2 rfl;clear hg2b;go_wp2_with (go_at_call 44;((with_reducible refine(HKC.out _ hb).mono ?_));rintro e w5 ⟨rfl,hb5⟩)
              go_roundw
              case rel=>exact⟨j+1,g2,by omega,by go_num,rfl,HX.out,HB1.out.trans (hb5.mono (by simpa using HB1.out.size))⟩
              case measure=>simp[intOf];omega
           ·have HX2:Hid (R=some gj):=Lib.hid (by rw[HX0.out];have h:=HF.out;rw[List.take_of_length_le (show ks.length≤j by rw[←HM.out];omega)] at h;exact h)
            go_wp2
            go_ret2
            exact z21 HX2.out rfl hb
         ·skip
          have qb4:decide (hi<lo)=false:=by simp;omega
          have hbo:=z0b w (.cells #[.int .i64 6,.int .u64 s0,.int .u64 s1,.int .u64 s2,.int .u64 s3,.slice A m c,.int .i64 lo,.int .i64 hi,.int .i64 n] 27);have hc5:(w.alloc (.cells #[.int .i64 6,.int .u64 s0,.int .u64 s1,.int .u64 s2,.int .u64 s3,.slice A m c,.int .i64 lo,.int .i64 hi,.int .i64 n] 27)).cell? ⟨w.heap.size,5,none⟩=some (.slice A m c):=by simp[go_sem]
          clear HR hS hn hl2 hb0 hb1 hb2 hm1;go_enter Tryd.func44,Tryd.ntmps44;go_wp2
          go_loopw [3,14] (fun gv i wr=>∃ j gj:Nat,j≤m∧i= .int .i64 j∧gv= .int .i64 gj∧formLR (ks.take j) 4 d g=some gj∧Below (w.heap.size+1) (w.alloc (.cells #[.int .i64 6,.int .u64 s0,.int .u64 s1,.int .u64 s2,.int .u64 s3,.slice A m c,.int .i64 lo,.int .i64 hi,.int .i64 n] 27)) wr) (fun _ i _=>m - (intOf i).toNat)
          case atStart=>exact⟨0,g,by omega,rfl,rfl,rfl,by simpa using z0b (w.alloc (.cells #[.int .i64 6,.int .u64 s0,.int .u64 s1,.int .u64 s2,.int .u64 s3,.slice A m c,.int .i64 lo,.int .i64 hi,.int .i64 n] 27)) _⟩
          case round=>
           obtain⟨j,gj,hj,rfl,rfl,hf,hb1⟩:=hrel;have hb:Below w.heap.size w wr:=hbo.trans (hb1.mono (by omega));have c5:wr.cell? ⟨w.heap.size,5,none⟩=some (.slice A m c):=(hb1.cell (p:=⟨w.heap.size,5,none⟩) (by show w.heap.size<w.heap.size+1;omega)).trans hc5;have hb1s:=hb1.size;have HB1:=Lib.hid hb1;have HF:=Lib.hid hf;clear hb1 hf;by_cases a:j<m
           ·obtain⟨r,hr⟩:=z0u HM.out a
            obtain⟨ad,A',c',rfl,hp,h9,hkr⟩:=z3t HK.out hb hr;have hmem:=List.mem_of_getElem? hr
            have hgle:gj+sizeE r≤1000000:=by
             have h1:=HSZ.out;have h2:=z1c hr;have h3:=z06 ks (j+1);have h4:=z2u _ _ _ _ _ HF.out;omega
            have hgj:gj≤1000000:=by omega
            have HX:=Lib.hid (z15 hr HF.out);obtain⟨R2,hR2⟩:∃ R2,R2=formR r 4 d gj:=⟨_,rfl⟩;have hg2b:∀ g2,R2=some g2→g2≤1000000:=fun g2 h=>by have:=z3p (hR2.symm.trans h);omega
            have K:∀ w2,Below w.heap.size w w2→Calls Tryd.prog 44 #[valR r A' c',.int .i64 4,.int .i64 d,.int .i64 gj] w2 (PostFR w2 R2):=fun w2 h2=>by
             rw[hR2];exact HI.out r hmem A' c' 4 d gj w2 (hkr.next h2) (by omega) (by omega) hgle
            rw[←hR2] at HX
            skip
            obtain⟨k',S',ks',lo',hi',n'⟩:=r;simp only[valR] at K;have HKC:=Lib.hid K;obtain⟨d0,d1,d2,d3,d4,d5,d6,d7,d8⟩:=h9;clear hr hkr hmem K hR2 hgle
            cases R2 with
            | none=>
              have HX2:Hid (R=none):=Lib.hid (by rw[HX0.out];exact z12 HX.out);go_wp2_with (go_at_call 44;((with_reducible refine(HKC.out _ hb).mono ?_));rintro e w5 ⟨⟨z5,rfl⟩,hb5⟩)
              go_ret2
              exact z0i HX2.out rfl (hb.trans (hb5.mono hb.size))
            | some g2=>
              have hg2:=hg2b g2 rfl;clear hg2b;go_wp2_with (go_at_call 44;((with_reducible refine(HKC.out _ hb).mono ?_));rintro e w5 ⟨rfl,hb5⟩)
              go_roundw
              case rel=>exact⟨j+1,g2,by omega,by go_num,rfl,HX.out,HB1.out.trans (hb5.mono (by simpa using HB1.out.size))⟩
              case measure=>simp[intOf];omega
           ·have HX2:Hid (R=some gj):=Lib.hid (by rw[HX0.out];have h:=HF.out;rw[List.take_of_length_le (show ks.length≤j by rw[←HM.out];omega)] at h;exact h)
            go_wp2
            go_ret2
            exact z21 HX2.out rfl hb
        ·skip
         have qm1:((m:Int) != 1)=true:=by simp;omega
         have qm2:(m != 1)=true:=by simp;omega
         rcases hb3 with hb3 | ⟨hb3,hb4⟩
         ·have HX:Hid (R=none):=Lib.hid (by rw[HR.out,z1s _ _ _ _ _ _ _ _ hlev,if_neg (fun h=>hm1 (by rw[HM.out];exact h.2.2.2.2))])
          clear HR hS hn hl2 hb0 hb1 hb2 hm1;go_enter Tryd.func44,Tryd.ntmps44;go_wp2
          go_ret2
          exact z0i HX.out rfl (z0e _ _ _)
         ·have HX:Hid (R=none):=Lib.hid (by rw[HR.out,z1s _ _ _ _ _ _ _ _ hlev,if_neg (fun h=>hm1 (by rw[HM.out];exact h.2.2.2.2))])
          have qb4:decide (hi<lo)=false:=by simp;omega
          clear HR hS hn hl2 hb0 hb1 hb2 hm1;go_enter Tryd.func44,Tryd.ntmps44;go_wp2
          go_ret2
          exact z0i HX.out rfl (z0e _ _ _)
       ·skip
        have qb3:(hi != -1)=true:=by simp at hb3 ⊢;omega
        have qb4:decide (hi<lo)=true:=by simp at hb3 ⊢;omega
        have HX:Hid (R=none):=Lib.hid (by rw[HR.out,z1s _ _ _ _ _ _ _ _ hlev,if_neg (fun h=>by have hb:=h.2.2.2.1;unfold bound at hb;simp at hb hb3;omega)]);clear HR hS hn hl2 hb0 hb1 hb2 hb3;go_enter Tryd.func44,Tryd.ntmps44;go_wp2
        go_ret2
        exact z0i HX.out rfl (z0e _ _ _)
      ·skip
       have qb2:decide (8<hi)=true:=by simp;omega
       have HX:Hid (R=none):=Lib.hid (by rw[HR.out,z1s _ _ _ _ _ _ _ _ hlev,if_neg (fun h=>by have hb:=h.2.2.2.1;unfold bound at hb;simp at hb;omega)]);clear HR hS hn hl2 hb0 hb1 hb2;go_enter Tryd.func44,Tryd.ntmps44;go_wp2
       go_ret2
       exact z0i HX.out rfl (z0e _ _ _)
     ·skip
      have qb1:decide (8<lo)=true:=by simp;omega
      have HX:Hid (R=none):=Lib.hid (by rw[HR.out,z1s _ _ _ _ _ _ _ _ hlev,if_neg (fun h=>by have hb:=h.2.2.2.1;unfold bound at hb;simp at hb;omega)]);clear HR hS hn hl2 hb0 hb1;go_enter Tryd.func44,Tryd.ntmps44;go_wp2
      go_ret2
      exact z0i HX.out rfl (z0e _ _ _)
    ·skip
     have qb0:decide (lo<0)=true:=by simp;omega
     have HX:Hid (R=none):=Lib.hid (by rw[HR.out,z1s _ _ _ _ _ _ _ _ hlev,if_neg (fun h=>by have hb:=h.2.2.2.1;unfold bound at hb;simp at hb;omega)]);clear HR hS hn hl2 hb0;go_enter Tryd.func44,Tryd.ntmps44;go_wp2
     go_ret2
     exact z0i HX.out rfl (z0e _ _ _)
   ·skip
    have ql1:decide ((2:Int)<(level:Int))=true:=by simp;omega
    have ql2:decide (2<level)=true:=by simp;omega
    have HX:Hid (R=none):=Lib.hid (by rw[HR.out,z1s _ _ _ _ _ _ _ _ hlev,if_neg (fun h=>hl2 h.2.2.1)]);clear HR hS hn hl2;go_enter Tryd.func44,Tryd.ntmps44;go_wp2
    go_ret2
    exact z0i HX.out rfl (z0e _ _ _)
  ·skip
   have gn:(0 != n)=true:=by simp;omega
   have gn2:(n != 0)=true:=by simp;omega
   have HX:Hid (R=none):=Lib.hid (by rw[HR.out,z1s _ _ _ _ _ _ _ _ hlev,if_neg (fun h=>hn h.2.1)]);clear HR hS hn;go_enter Tryd.func44,Tryd.ntmps44;go_wp2
   go_ret2
   exact z0i HX.out rfl (z0e _ _ _)
 ·skip
  have gS:(!decide (none4=S))=true:=by simp[hS]
  simp only[gS] at hz1;clear gS;have HX:Hid (R=none):=Lib.hid (by rw[HR.out,z1s _ _ _ _ _ _ _ _ hlev,if_neg (fun h=>hS h.1.symm)]);clear HR hS;go_enter Tryd.func44,Tryd.ntmps44;go_wp2
  go_ret2
  exact z0i HX.out rfl (z0e _ _ _)
theorem y1d (S:S4) (ks:List Re) (lo hi n:Int) (ih:∀ r∈ks,FormC r):FormC (.mk 7 S ks lo hi n):=by
 intro A c level d g w hk hlev hd hsz;obtain⟨R,hR⟩:∃ R,R=formR (.mk 7 S ks lo hi n) level d g:=⟨_,rfl⟩;rw[←hR];obtain⟨m,hm⟩:∃ m,m=ks.length:=⟨_,rfl⟩;have hz1:=fun W=>z2n S W
 have hz2:∀ W,(binOp .neq 24 (.agg #[.int .u64 S.1.toNat,.int .u64 S.2.1.toNat,.int .u64 S.2.2.1.toNat,.int .u64 S.2.2.2.toNat]) (.agg #[.int .u64 S.1.toNat,.int .u64 S.2.1.toNat,.int .u64 S.2.2.1.toNat,.int .u64 S.2.2.2.toNat])).run Tryd.prog W= .ok (.bool false) W:=fun W=>by rw[z2v];simp
 have hmx:=z00 ks;rw[sizeE] at hsz;have hm9:m≤1000000:=by omega
 have hg9:g≤1000000:=by omega
 simp only[valR];rw[←hm];obtain⟨s0,hs0⟩:∃ s0:Int,s0=S.1.toNat:=⟨_,rfl⟩;obtain⟨s1,hs1⟩:∃ s1:Int,s1=S.2.1.toNat:=⟨_,rfl⟩;obtain⟨s2,hs2⟩:∃ s2:Int,s2=S.2.2.1.toNat:=⟨_,rfl⟩;obtain⟨s3,hs3⟩:∃ s3:Int,s3=S.2.2.2.toNat:=⟨_,rfl⟩;rw[←hs0,←hs1,←hs2,←hs3] at hz1 hz2 ⊢;have HK:=Lib.hid hk;have HM:=Lib.hid hm;have HSZ:=Lib.hid hsz;have HR:=Lib.hid hR;have HI:=Lib.hid ih;clear hk hs0 hs1 hs2 hs3 hm hsz hR hmx ih;by_cases hS:none4=S
 ·skip
  have gS:(!decide (none4=S))=false:=by simp[hS]
  simp only[gS] at hz1;clear gS;by_cases hlo:lo=0
  ·skip
   have glo:(0 != lo)=false:=by simp[hlo]
   have glo2:(lo != 0)=false:=by simp[hlo]
   by_cases hhi:hi=0
   ·skip
    have ghi:(0 != hi)=false:=by simp[hhi]
    have ghi2:(hi != 0)=false:=by simp[hhi]
    obtain⟨N,hN⟩:∃ N,N=num (g+1):=⟨_,rfl⟩
    have hcase:decide ((9:Int)<(g:Int)+1)=true∧Hid (N=0)∨decide ((9:Int)<(g:Int)+1)=false∧Hid (N=(g:Int)+1):=by
     rw[hN];unfold num;by_cases h9:g+1 > 9
     ·rw[if_pos h9];exact .inl ⟨by simp;omega,Lib.hid rfl⟩
     ·rw[if_neg h9];exact .inr ⟨by simp;omega,Lib.hid (by omega)⟩
    have HN:=Lib.hid hN;clear hN;by_cases hnn:n=num (g+1)
    ·skip
     rw[←HN.out] at hnn;by_cases hd64:d<64
     ·skip
      have qd:decide ((64:Int)≤(d:Int))=false:=by simp;omega
      have qd2:decide (64≤d)=false:=by simp;omega
      by_cases hm1:m=1
      ·skip
       have qm1:((m:Int) != 1)=false:=by simp;omega
       have qm2:(m != 1)=false:=by simp;omega
       have HX0:Hid (R=formLR ks 0 (d+1) (g+1)):=Lib.hid (by rw[HR.out,z08,if_pos ⟨hS.symm,hlo,hhi,by rw[←HN.out];exact hnn,hd64,by rw[←HM.out];exact hm1⟩])
       rcases hcase with ⟨hc9,HNv⟩ | ⟨hc9,HNv⟩
       ·skip
        have qn:(n != 0)=false:=by rw[hnn,HNv.out];simp
        have qnn:(n != (g:Int)+1)=(n != (g:Int)+1):=rfl;have hbo:=z0b w (.cells #[.int .i64 7,.int .u64 s0,.int .u64 s1,.int .u64 s2,.int .u64 s3,.slice A m c,.int .i64 lo,.int .i64 hi,.int .i64 n] 27);have hc5:(w.alloc (.cells #[.int .i64 7,.int .u64 s0,.int .u64 s1,.int .u64 s2,.int .u64 s3,.slice A m c,.int .i64 lo,.int .i64 hi,.int .i64 n] 27)).cell? ⟨w.heap.size,5,none⟩=some (.slice A m c):=by simp[go_sem]
        clear HR hS hlo hhi hnn hm1;go_enter Tryd.func44,Tryd.ntmps44;go_wp2
        go_loopw [3,14] (fun gv i wr=>∃ j gj:Nat,j≤m∧i= .int .i64 j∧gv= .int .i64 gj∧formLR (ks.take j) 0 (d+1) (g+1)=some gj∧Below (w.heap.size+1) (w.alloc (.cells #[.int .i64 7,.int .u64 s0,.int .u64 s1,.int .u64 s2,.int .u64 s3,.slice A m c,.int .i64 lo,.int .i64 hi,.int .i64 n] 27)) wr) (fun _ i _=>m - (intOf i).toNat)
        case atStart=>exact⟨0,(g+1),by omega,rfl,by go_num,rfl,by simpa using z0b (w.alloc (.cells #[.int .i64 7,.int .u64 s0,.int .u64 s1,.int .u64 s2,.int .u64 s3,.slice A m c,.int .i64 lo,.int .i64 hi,.int .i64 n] 27)) _⟩
        case round=>
         obtain⟨j,gj,hj,rfl,rfl,hf,hb1⟩:=hrel;have hb:Below w.heap.size w wr:=hbo.trans (hb1.mono (by omega));have c5:wr.cell? ⟨w.heap.size,5,none⟩=some (.slice A m c):=(hb1.cell (p:=⟨w.heap.size,5,none⟩) (by show w.heap.size<w.heap.size+1;omega)).trans hc5;have hb1s:=hb1.size;have HB1:=Lib.hid hb1;have HF:=Lib.hid hf;clear hb1 hf;by_cases a:j<m
         ·obtain⟨r,hr⟩:=z0u HM.out a
          obtain⟨ad,A',c',rfl,hp,h9,hkr⟩:=z3t HK.out hb hr;have hmem:=List.mem_of_getElem? hr
          have hgle:gj+sizeE r≤1000000:=by
           have h1:=HSZ.out;have h2:=z1c hr;have h3:=z06 ks (j+1);have h4:=z2u _ _ _ _ _ HF.out;omega
          have hgj:gj≤1000000:=by omega
          have HX:=Lib.hid (z15 hr HF.out);obtain⟨R2,hR2⟩:∃ R2,R2=formR r 0 (d+1) gj:=⟨_,rfl⟩;have hg2b:∀ g2,R2=some g2→g2≤1000000:=fun g2 h=>by have:=z3p (hR2.symm.trans h);omega
          have K:∀ w2,Below w.heap.size w w2→Calls Tryd.prog 44 #[valR r A' c',.int .i64 0,.int .i64 (d+1),.int .i64 gj] w2 (PostFR w2 R2):=fun w2 h2=>by
           rw[hR2];exact HI.out r hmem A' c' 0 (d+1) gj w2 (hkr.next h2) (by omega) (by omega) hgle
          rw[←hR2] at HX
          push_cast at K
          obtain⟨k',S',ks',lo',hi',n'⟩:=r;simp only[valR] at K;have HKC:=Lib.hid K;obtain⟨d0,d1,d2,d3,d4,d5,d6,d7,d8⟩:=h9;clear hr hkr hmem K hR2 hgle
          cases R2 with
          | none=>
            have HX2:Hid (R=none):=Lib.hid (by rw[HX0.out];exact z12 HX.out);go_wp2_with (go_at_call 44;((with_reducible refine(HKC.out _ hb).mono ?_));rintro e w5 ⟨⟨z5,rfl⟩,hb5⟩)
            go_ret2
            exact z0i HX2.out rfl (hb.trans (hb5.mono hb.size))
          | some g2=>
            have hg2:=hg2b g2 rfl;clear hg2b;go_wp2_with (go_at_call 44;((with_reducible refine(HKC.out _ hb).mono ?_));rintro e w5 ⟨rfl,hb5⟩)
            go_roundw
            case rel=>exact⟨j+1,g2,by omega,by go_num,rfl,HX.out,HB1.out.trans (hb5.mono (by simpa using HB1.out.size))⟩
            case measure=>simp[intOf];omega
         ·have HX2:Hid (R=some gj):=Lib.hid (by rw[HX0.out];have h:=HF.out;rw[List.take_of_length_le (show ks.length≤j by rw[←HM.out];omega)] at h;exact h)
          go_wp2
          go_ret2
          exact z21 HX2.out rfl hb
       ·skip
        have qn:(n != (g:Int)+1)=false:=by rw[hnn,HNv.out];simp
        have hbo:=z0b w (.cells #[.int .i64 7,.int .u64 s0,.int .u64 s1,.int .u64 s2,.int .u64 s3,.slice A m c,.int .i64 lo,.int .i64 hi,.int .i64 n] 27);have hc5:(w.alloc (.cells #[.int .i64 7,.int .u64 s0,.int .u64 s1,.int .u64 s2,.int .u64 s3,.slice A m c,.int .i64 lo,.int .i64 hi,.int .i64 n] 27)).cell? ⟨w.heap.size,5,none⟩=some (.slice A m c):=by simp[go_sem]
        clear HR hS hlo hhi hnn hm1;go_enter Tryd.func44,Tryd.ntmps44;go_wp2
        go_loopw [3,14] (fun gv i wr=>∃ j gj:Nat,j≤m∧i= .int .i64 j∧gv= .int .i64 gj∧formLR (ks.take j) 0 (d+1) (g+1)=some gj∧Below (w.heap.size+1) (w.alloc (.cells #[.int .i64 7,.int .u64 s0,.int .u64 s1,.int .u64 s2,.int .u64 s3,.slice A m c,.int .i64 lo,.int .i64 hi,.int .i64 n] 27)) wr) (fun _ i _=>m - (intOf i).toNat)
        case atStart=>exact⟨0,(g+1),by omega,rfl,by go_num,rfl,by simpa using z0b (w.alloc (.cells #[.int .i64 7,.int .u64 s0,.int .u64 s1,.int .u64 s2,.int .u64 s3,.slice A m c,.int .i64 lo,.int .i64 hi,.int .i64 n] 27)) _⟩
        case round=>
         obtain⟨j,gj,hj,rfl,rfl,hf,hb1⟩:=hrel;have hb:Below w.heap.size w wr:=hbo.trans (hb1.mono (by omega));have c5:wr.cell? ⟨w.heap.size,5,none⟩=some (.slice A m c):=(hb1.cell (p:=⟨w.heap.size,5,none⟩) (by show w.heap.size<w.heap.size+1;omega)).trans hc5;have hb1s:=hb1.size;have HB1:=Lib.hid hb1;have HF:=Lib.hid hf;clear hb1 hf;by_cases a:j<m
         ·obtain⟨r,hr⟩:=z0u HM.out a
          obtain⟨ad,A',c',rfl,hp,h9,hkr⟩:=z3t HK.out hb hr;have hmem:=List.mem_of_getElem? hr
          have hgle:gj+sizeE r≤1000000:=by
           have h1:=HSZ.out;have h2:=z1c hr;have h3:=z06 ks (j+1);have h4:=z2u _ _ _ _ _ HF.out;omega
          have hgj:gj≤1000000:=by omega
          have HX:=Lib.hid (z15 hr HF.out);obtain⟨R2,hR2⟩:∃ R2,R2=formR r 0 (d+1) gj:=⟨_,rfl⟩;have hg2b:∀ g2,R2=some g2→g2≤1000000:=fun g2 h=>by have:=z3p (hR2.symm.trans h);omega
          have K:∀ w2,Below w.heap.size w w2→Calls Tryd.prog 44 #[valR r A' c',.int .i64 0,.int .i64 (d+1),.int .i64 gj] w2 (PostFR w2 R2):=fun w2 h2=>by
           rw[hR2];exact HI.out r hmem A' c' 0 (d+1) gj w2 (hkr.next h2) (by omega) (by omega) hgle
          rw[←hR2] at HX
          push_cast at K
          obtain⟨k',S',ks',lo',hi',n'⟩:=r;simp only[valR] at K;have HKC:=Lib.hid K;obtain⟨d0,d1,d2,d3,d4,d5,d6,d7,d8⟩:=h9;clear hr hkr hmem K hR2 hgle
          cases R2 with
          | none=>
            have HX2:Hid (R=none):=Lib.hid (by rw[HX0.out];exact z12 HX.out);go_wp2_with (go_at_call 44;((with_reducible refine(HKC.out _ hb).mono ?_));rintro e w5 ⟨⟨z5,rfl⟩,hb5⟩)
            go_ret2
            exact z0i HX2.out rfl (hb.trans (hb5.mono hb.size))
          | some g2=>
            have hg2:=hg2b g2 rfl;clear hg2b;go_wp2_with (go_at_call 44;((with_reducible refine(HKC.out _ hb).mono ?_));rintro e w5 ⟨rfl,hb5⟩)
            go_roundw
            case rel=>exact⟨j+1,g2,by omega,by go_num,rfl,HX.out,HB1.out.trans (hb5.mono (by simpa using HB1.out.size))⟩
            case measure=>simp[intOf];omega
         ·have HX2:Hid (R=some gj):=Lib.hid (by rw[HX0.out];have h:=HF.out;rw[List.take_of_length_le (show ks.length≤j by rw[←HM.out];omega)] at h;exact h)
          go_wp2
          go_ret2
          exact z21 HX2.out rfl hb
      ·skip
       have qm1:((m:Int) != 1)=true:=by simp;omega
       have qm2:(m != 1)=true:=by simp;omega
       rcases hcase with ⟨hc9,HNv⟩ | ⟨hc9,HNv⟩
       ·have qn:(n != 0)=false:=by rw[hnn,HNv.out];simp
        have HX:Hid (R=none):=Lib.hid (by rw[HR.out,z08,if_neg (fun h=>hm1 (by rw[HM.out];exact h.2.2.2.2.2))]);clear HR hS hlo hhi hnn hd64 hm1;go_enter Tryd.func44,Tryd.ntmps44;go_wp2
        go_ret2
        exact z0i HX.out rfl (z0e _ _ _)
       ·have qn:(n != (g:Int)+1)=false:=by rw[hnn,HNv.out];simp
        have HX:Hid (R=none):=Lib.hid (by rw[HR.out,z08,if_neg (fun h=>hm1 (by rw[HM.out];exact h.2.2.2.2.2))]);clear HR hS hlo hhi hnn hd64 hm1;go_enter Tryd.func44,Tryd.ntmps44;go_wp2
        go_ret2
        exact z0i HX.out rfl (z0e _ _ _)
     ·skip
      have qd:decide ((64:Int)≤(d:Int))=true:=by simp;omega
      have qd2:decide (64≤d)=true:=by simp;omega
      rcases hcase with ⟨hc9,HNv⟩ | ⟨hc9,HNv⟩
      ·have qn:(n != 0)=false:=by rw[hnn,HNv.out];simp
       have HX:Hid (R=none):=Lib.hid (by rw[HR.out,z08,if_neg (fun h=>hd64 h.2.2.2.2.1)]);clear HR hS hlo hhi hnn hd64;go_enter Tryd.func44,Tryd.ntmps44;go_wp2
       go_ret2
       exact z0i HX.out rfl (z0e _ _ _)
      ·have qn:(n != (g:Int)+1)=false:=by rw[hnn,HNv.out];simp
       have HX:Hid (R=none):=Lib.hid (by rw[HR.out,z08,if_neg (fun h=>hd64 h.2.2.2.2.1)]);clear HR hS hlo hhi hnn hd64;go_enter Tryd.func44,Tryd.ntmps44;go_wp2
       go_ret2
       exact z0i HX.out rfl (z0e _ _ _)
    ·skip
     rw[←HN.out] at hnn
     rcases hcase with ⟨hc9,HNv⟩ | ⟨hc9,HNv⟩
     ·have qn:(n != 0)=true:=by rw[←HNv.out];simp[hnn]
      have HX:Hid (R=none):=Lib.hid (by rw[HR.out,z08,if_neg (fun h=>hnn (by rw[HN.out];exact h.2.2.2.1))]);clear HR hS hlo hhi hnn;go_enter Tryd.func44,Tryd.ntmps44;go_wp2
      go_ret2
      exact z0i HX.out rfl (z0e _ _ _)
     ·have qn:(n != (g:Int)+1)=true:=by rw[←HNv.out];simp[hnn]
      have HX:Hid (R=none):=Lib.hid (by rw[HR.out,z08,if_neg (fun h=>hnn (by rw[HN.out];exact h.2.2.2.1))]);clear HR hS hlo hhi hnn;go_enter Tryd.func44,Tryd.ntmps44;go_wp2
      go_ret2
      exact z0i HX.out rfl (z0e _ _ _)
   ·skip
    have ghi:(0 != hi)=true:=by simp;omega
    have ghi2:(hi != 0)=true:=by simp;omega
    have HX:Hid (R=none):=Lib.hid (by rw[HR.out,z08,if_neg (fun h=>hhi h.2.2.1)]);clear HR hS hlo hhi;go_enter Tryd.func44,Tryd.ntmps44;go_wp2
    go_ret2
    exact z0i HX.out rfl (z0e _ _ _)
  ·skip
   have glo:(0 != lo)=true:=by simp;omega
   have glo2:(lo != 0)=true:=by simp;omega
   have HX:Hid (R=none):=Lib.hid (by rw[HR.out,z08,if_neg (fun h=>hlo h.2.1)]);clear HR hS hlo;go_enter Tryd.func44,Tryd.ntmps44;go_wp2
   go_ret2
   exact z0i HX.out rfl (z0e _ _ _)
 ·skip
  have gS:(!decide (none4=S))=true:=by simp[hS]
  simp only[gS] at hz1;clear gS;have HX:Hid (R=none):=Lib.hid (by rw[HR.out,z08,if_neg (fun h=>hS h.1.symm)]);clear HR hS;go_enter Tryd.func44,Tryd.ntmps44;go_wp2
  go_ret2
  exact z0i HX.out rfl (z0e _ _ _)
theorem y4b (S:S4) (ks:List Re) (lo hi n:Int) (ih:∀ r∈ks,FormC r):FormC (.mk 4 S ks lo hi n):=by
 intro A c level d g w hk hlev hd hsz;obtain⟨R,hR⟩:∃ R,R=formR (.mk 4 S ks lo hi n) level d g:=⟨_,rfl⟩;rw[←hR];obtain⟨m,hm⟩:∃ m,m=ks.length:=⟨_,rfl⟩;have hz1:=fun W=>z2n S W
 have hz2:∀ W,(binOp .neq 24 (.agg #[.int .u64 S.1.toNat,.int .u64 S.2.1.toNat,.int .u64 S.2.2.1.toNat,.int .u64 S.2.2.2.toNat]) (.agg #[.int .u64 S.1.toNat,.int .u64 S.2.1.toNat,.int .u64 S.2.2.1.toNat,.int .u64 S.2.2.2.toNat])).run Tryd.prog W= .ok (.bool false) W:=fun W=>by rw[z2v];simp
 have hmx:=z00 ks;rw[sizeE] at hsz;have hm9:m≤1000000:=by omega
 have hg9:g≤1000000:=by omega
 simp only[valR];rw[←hm];obtain⟨s0,hs0⟩:∃ s0:Int,s0=S.1.toNat:=⟨_,rfl⟩;obtain⟨s1,hs1⟩:∃ s1:Int,s1=S.2.1.toNat:=⟨_,rfl⟩;obtain⟨s2,hs2⟩:∃ s2:Int,s2=S.2.2.1.toNat:=⟨_,rfl⟩;obtain⟨s3,hs3⟩:∃ s3:Int,s3=S.2.2.2.toNat:=⟨_,rfl⟩;rw[←hs0,←hs1,←hs2,←hs3] at hz1 hz2 ⊢;have HK:=Lib.hid hk;have HM:=Lib.hid hm;have HSZ:=Lib.hid hsz;have HR:=Lib.hid hR;have HI:=Lib.hid ih;clear hk hs0 hs1 hs2 hs3 hm hsz hR hmx ih;by_cases hS:none4=S
 ·skip
  have gS:(!decide (none4=S))=false:=by simp[hS]
  simp only[gS] at hz1;clear gS;by_cases hlo:lo=0
  ·skip
   have glo:(0 != lo)=false:=by simp[hlo]
   have glo2:(lo != 0)=false:=by simp[hlo]
   by_cases hhi:hi=0
   ·skip
    have ghi:(0 != hi)=false:=by simp[hhi]
    have ghi2:(hi != 0)=false:=by simp[hhi]
    by_cases hn:n=0
    ·skip
     have gn:(0 != n)=false:=by simp[hn]
     have gn2:(n != 0)=false:=by simp[hn]
     by_cases hl1:level≤1
     ·skip
      have ql1:decide ((1:Int)<(level:Int))=false:=by simp;omega
      have ql2:decide (1<level)=false:=by simp;omega
      by_cases hm2:2≤m
      ·skip
       have qm1:decide ((m:Int)<2)=false:=by simp;omega
       have qm2:decide (m<2)=false:=by simp;omega
       have HX0:Hid (R=formLR ks 2 d g):=Lib.hid (by rw[HR.out,z0w _ _ _ _ _ _ _ _ _ hlev (.inl rfl),if_pos ⟨hS.symm,hlo,hhi,hn,by omega,by rw[←HM.out];exact hm2⟩,if_pos rfl]);have hbo:=z0b w (.cells #[.int .i64 4,.int .u64 s0,.int .u64 s1,.int .u64 s2,.int .u64 s3,.slice A m c,.int .i64 lo,.int .i64 hi,.int .i64 n] 27);have hc5:(w.alloc (.cells #[.int .i64 4,.int .u64 s0,.int .u64 s1,.int .u64 s2,.int .u64 s3,.slice A m c,.int .i64 lo,.int .i64 hi,.int .i64 n] 27)).cell? ⟨w.heap.size,5,none⟩=some (.slice A m c):=by simp[go_sem]
       clear HR hS hlo hhi hn hl1 hm2;go_enter Tryd.func44,Tryd.ntmps44;go_wp2
       go_loopw [3,14] (fun gv i wr=>∃ j gj:Nat,j≤m∧i= .int .i64 j∧gv= .int .i64 gj∧formLR (ks.take j) 2 d g=some gj∧Below (w.heap.size+1) (w.alloc (.cells #[.int .i64 4,.int .u64 s0,.int .u64 s1,.int .u64 s2,.int .u64 s3,.slice A m c,.int .i64 lo,.int .i64 hi,.int .i64 n] 27)) wr) (fun _ i _=>m - (intOf i).toNat)
       case atStart=>exact⟨0,g,by omega,rfl,rfl,rfl,by simpa using z0b (w.alloc (.cells #[.int .i64 4,.int .u64 s0,.int .u64 s1,.int .u64 s2,.int .u64 s3,.slice A m c,.int .i64 lo,.int .i64 hi,.int .i64 n] 27)) _⟩
       case round=>
        obtain⟨j,gj,hj,rfl,rfl,hf,hb1⟩:=hrel;have hb:Below w.heap.size w wr:=hbo.trans (hb1.mono (by omega));have c5:wr.cell? ⟨w.heap.size,5,none⟩=some (.slice A m c):=(hb1.cell (p:=⟨w.heap.size,5,none⟩) (by show w.heap.size<w.heap.size+1;omega)).trans hc5;have hb1s:=hb1.size;have HB1:=Lib.hid hb1;have HF:=Lib.hid hf;clear hb1 hf;by_cases a:j<m
        ·obtain⟨r,hr⟩:=z0u HM.out a
         obtain⟨ad,A',c',rfl,hp,h9,hkr⟩:=z3t HK.out hb hr;have hmem:=List.mem_of_getElem? hr
         have hgle:gj+sizeE r≤1000000:=by
          have h1:=HSZ.out;have h2:=z1c hr;have h3:=z06 ks (j+1);have h4:=z2u _ _ _ _ _ HF.out;omega
         have hgj:gj≤1000000:=by omega
         have HX:=Lib.hid (z15 hr HF.out);obtain⟨R2,hR2⟩:∃ R2,R2=formR r 2 d gj:=⟨_,rfl⟩;have hg2b:∀ g2,R2=some g2→g2≤1000000:=fun g2 h=>by have:=z3p (hR2.symm.trans h);omega
         have K:∀ w2,Below w.heap.size w w2→Calls Tryd.prog 44 #[valR r A' c',.int .i64 2,.int .i64 d,.int .i64 gj] w2 (PostFR w2 R2):=fun w2 h2=>by
          rw[hR2];exact HI.out r hmem A' c' 2 d gj w2 (hkr.next h2) (by omega) (by omega) hgle
         rw[←hR2] at HX
         skip
         obtain⟨k',S',ks',lo',hi',n'⟩:=r;simp only[valR] at K;have HKC:=Lib.hid K;obtain⟨d0,d1,d2,d3,d4,d5,d6,d7,d8⟩:=h9;clear hr hkr hmem K hR2 hgle
         cases R2 with
         | none=>
           have HX2:Hid (R=none):=Lib.hid (by rw[HX0.out];exact z12 HX.out);go_wp2_with (go_at_call 44;((with_reducible refine(HKC.out _ hb).mono ?_));rintro e w5 ⟨⟨z5,rfl⟩,hb5⟩)
           go_ret2
           exact z0i HX2.out rfl (hb.trans (hb5.mono hb.size))
         | some g2=>
           have hg2:=hg2b g2 rfl;clear hg2b;go_wp2_with (go_at_call 44;((with_reducible refine(HKC.out _ hb).mono ?_));rintro e w5 ⟨rfl,hb5⟩)
           go_roundw
           case rel=>exact⟨j+1,g2,by omega,by go_num,rfl,HX.out,HB1.out.trans (hb5.mono (by simpa using HB1.out.size))⟩
           case measure=>simp[intOf];omega
        ·have HX2:Hid (R=some gj):=Lib.hid (by rw[HX0.out];have h:=HF.out;rw[List.take_of_length_le (show ks.length≤j by rw[←HM.out];omega)] at h;exact h)
         go_wp2
         go_ret2
         exact z21 HX2.out rfl hb
      ·skip
       have qm1:decide ((m:Int)<2)=true:=by simp;omega
       have qm2:decide (m<2)=true:=by simp;omega
       have HX:Hid (R=none):=Lib.hid (by rw[HR.out,z0w _ _ _ _ _ _ _ _ _ hlev (.inl rfl),if_neg (fun h=>hm2 (by rw[HM.out];exact h.2.2.2.2.2))]);clear HR hS hlo hhi hn hl1 hm2;go_enter Tryd.func44,Tryd.ntmps44;go_wp2
       go_ret2
       exact z0i HX.out rfl (z0e _ _ _)
     ·skip
      have ql1:decide ((1:Int)<(level:Int))=true:=by simp;omega
      have ql2:decide (1<level)=true:=by simp;omega
      have HX:Hid (R=none):=Lib.hid (by rw[HR.out,z0w _ _ _ _ _ _ _ _ _ hlev (.inl rfl),if_neg (fun h=>hl1 (by have:=h.2.2.2.2.1;omega))]);clear HR hS hlo hhi hn hl1;go_enter Tryd.func44,Tryd.ntmps44;go_wp2
      go_ret2
      exact z0i HX.out rfl (z0e _ _ _)
    ·skip
     have gn:(0 != n)=true:=by simp;omega
     have gn2:(n != 0)=true:=by simp;omega
     have HX:Hid (R=none):=Lib.hid (by rw[HR.out,z0w _ _ _ _ _ _ _ _ _ hlev (.inl rfl),if_neg (fun h=>hn h.2.2.2.1)]);clear HR hS hlo hhi hn;go_enter Tryd.func44,Tryd.ntmps44;go_wp2
     go_ret2
     exact z0i HX.out rfl (z0e _ _ _)
   ·skip
    have ghi:(0 != hi)=true:=by simp;omega
    have ghi2:(hi != 0)=true:=by simp;omega
    have HX:Hid (R=none):=Lib.hid (by rw[HR.out,z0w _ _ _ _ _ _ _ _ _ hlev (.inl rfl),if_neg (fun h=>hhi h.2.2.1)]);clear HR hS hlo hhi;go_enter Tryd.func44,Tryd.ntmps44;go_wp2
    go_ret2
    exact z0i HX.out rfl (z0e _ _ _)
  ·skip
   have glo:(0 != lo)=true:=by simp;omega
   have glo2:(lo != 0)=true:=by simp;omega
   have HX:Hid (R=none):=Lib.hid (by rw[HR.out,z0w _ _ _ _ _ _ _ _ _ hlev (.inl rfl),if_neg (fun h=>hlo h.2.1)]);clear HR hS hlo;go_enter Tryd.func44,Tryd.ntmps44;go_wp2
   go_ret2
   exact z0i HX.out rfl (z0e _ _ _)
 ·skip
  have gS:(!decide (none4=S))=true:=by simp[hS]
  simp only[gS] at hz1;clear gS;have HX:Hid (R=none):=Lib.hid (by rw[HR.out,z0w _ _ _ _ _ _ _ _ _ hlev (.inl rfl),if_neg (fun h=>hS h.1.symm)]);clear HR hS;go_enter Tryd.func44,Tryd.ntmps44;go_wp2
  go_ret2
  exact z0i HX.out rfl (z0e _ _ _)
theorem y3b (S:S4) (ks:List Re) (lo hi n:Int) (ih:∀ r∈ks,FormC r):FormC (.mk 5 S ks lo hi n):=by
 intro A c level d g w hk hlev hd hsz;obtain⟨R,hR⟩:∃ R,R=formR (.mk 5 S ks lo hi n) level d g:=⟨_,rfl⟩;rw[←hR];obtain⟨m,hm⟩:∃ m,m=ks.length:=⟨_,rfl⟩;have hz1:=fun W=>z2n S W
 have hz2:∀ W,(binOp .neq 24 (.agg #[.int .u64 S.1.toNat,.int .u64 S.2.1.toNat,.int .u64 S.2.2.1.toNat,.int .u64 S.2.2.2.toNat]) (.agg #[.int .u64 S.1.toNat,.int .u64 S.2.1.toNat,.int .u64 S.2.2.1.toNat,.int .u64 S.2.2.2.toNat])).run Tryd.prog W= .ok (.bool false) W:=fun W=>by rw[z2v];simp
 have hmx:=z00 ks;rw[sizeE] at hsz;have hm9:m≤1000000:=by omega
 have hg9:g≤1000000:=by omega
 simp only[valR];rw[←hm];obtain⟨s0,hs0⟩:∃ s0:Int,s0=S.1.toNat:=⟨_,rfl⟩;obtain⟨s1,hs1⟩:∃ s1:Int,s1=S.2.1.toNat:=⟨_,rfl⟩;obtain⟨s2,hs2⟩:∃ s2:Int,s2=S.2.2.1.toNat:=⟨_,rfl⟩;obtain⟨s3,hs3⟩:∃ s3:Int,s3=S.2.2.2.toNat:=⟨_,rfl⟩;rw[←hs0,←hs1,←hs2,←hs3] at hz1 hz2 ⊢;have HK:=Lib.hid hk;have HM:=Lib.hid hm;have HSZ:=Lib.hid hsz;have HR:=Lib.hid hR;have HI:=Lib.hid ih;clear hk hs0 hs1 hs2 hs3 hm hsz hR hmx ih;by_cases hS:none4=S
 ·skip
  have gS:(!decide (none4=S))=false:=by simp[hS]
  simp only[gS] at hz1;clear gS;by_cases hlo:lo=0
  ·skip
   have glo:(0 != lo)=false:=by simp[hlo]
   have glo2:(lo != 0)=false:=by simp[hlo]
   by_cases hhi:hi=0
   ·skip
    have ghi:(0 != hi)=false:=by simp[hhi]
    have ghi2:(hi != 0)=false:=by simp[hhi]
    by_cases hn:n=0
    ·skip
     have gn:(0 != n)=false:=by simp[hn]
     have gn2:(n != 0)=false:=by simp[hn]
     by_cases hl1:level≤0
     ·skip
      have ql1:decide ((0:Int)<(level:Int))=false:=by simp;omega
      have ql2:decide (0<level)=false:=by simp;omega
      by_cases hm2:2≤m
      ·skip
       have qm1:decide ((m:Int)<2)=false:=by simp;omega
       have qm2:decide (m<2)=false:=by simp;omega
       have HX0:Hid (R=formLR ks 1 d g):=Lib.hid (by rw[HR.out,z0w _ _ _ _ _ _ _ _ _ hlev (.inr rfl),if_pos ⟨hS.symm,hlo,hhi,hn,by omega,by rw[←HM.out];exact hm2⟩,if_neg (by omega)]);have hbo:=z0b w (.cells #[.int .i64 5,.int .u64 s0,.int .u64 s1,.int .u64 s2,.int .u64 s3,.slice A m c,.int .i64 lo,.int .i64 hi,.int .i64 n] 27);have hc5:(w.alloc (.cells #[.int .i64 5,.int .u64 s0,.int .u64 s1,.int .u64 s2,.int .u64 s3,.slice A m c,.int .i64 lo,.int .i64 hi,.int .i64 n] 27)).cell? ⟨w.heap.size,5,none⟩=some (.slice A m c):=by simp[go_sem]
       clear HR hS hlo hhi hn hl1 hm2;go_enter Tryd.func44,Tryd.ntmps44;go_wp2
       go_loopw [3,14] (fun gv i wr=>∃ j gj:Nat,j≤m∧i= .int .i64 j∧gv= .int .i64 gj∧formLR (ks.take j) 1 d g=some gj∧Below (w.heap.size+1) (w.alloc (.cells #[.int .i64 5,.int .u64 s0,.int .u64 s1,.int .u64 s2,.int .u64 s3,.slice A m c,.int .i64 lo,.int .i64 hi,.int .i64 n] 27)) wr) (fun _ i _=>m - (intOf i).toNat)
       case atStart=>exact⟨0,g,by omega,rfl,rfl,rfl,by simpa using z0b (w.alloc (.cells #[.int .i64 5,.int .u64 s0,.int .u64 s1,.int .u64 s2,.int .u64 s3,.slice A m c,.int .i64 lo,.int .i64 hi,.int .i64 n] 27)) _⟩
       case round=>
        obtain⟨j,gj,hj,rfl,rfl,hf,hb1⟩:=hrel;have hb:Below w.heap.size w wr:=hbo.trans (hb1.mono (by omega));have c5:wr.cell? ⟨w.heap.size,5,none⟩=some (.slice A m c):=(hb1.cell (p:=⟨w.heap.size,5,none⟩) (by show w.heap.size<w.heap.size+1;omega)).trans hc5;have hb1s:=hb1.size;have HB1:=Lib.hid hb1;have HF:=Lib.hid hf;clear hb1 hf;by_cases a:j<m
        ·obtain⟨r,hr⟩:=z0u HM.out a
         obtain⟨ad,A',c',rfl,hp,h9,hkr⟩:=z3t HK.out hb hr;have hmem:=List.mem_of_getElem? hr
         have hgle:gj+sizeE r≤1000000:=by
          have h1:=HSZ.out;have h2:=z1c hr;have h3:=z06 ks (j+1);have h4:=z2u _ _ _ _ _ HF.out;omega
         have hgj:gj≤1000000:=by omega
         have HX:=Lib.hid (z15 hr HF.out);obtain⟨R2,hR2⟩:∃ R2,R2=formR r 1 d gj:=⟨_,rfl⟩;have hg2b:∀ g2,R2=some g2→g2≤1000000:=fun g2 h=>by have:=z3p (hR2.symm.trans h);omega
         have K:∀ w2,Below w.heap.size w w2→Calls Tryd.prog 44 #[valR r A' c',.int .i64 1,.int .i64 d,.int .i64 gj] w2 (PostFR w2 R2):=fun w2 h2=>by
          rw[hR2];exact HI.out r hmem A' c' 1 d gj w2 (hkr.next h2) (by omega) (by omega) hgle
         rw[←hR2] at HX
         skip
         obtain⟨k',S',ks',lo',hi',n'⟩:=r;simp only[valR] at K;have HKC:=Lib.hid K;obtain⟨d0,d1,d2,d3,d4,d5,d6,d7,d8⟩:=h9;clear hr hkr hmem K hR2 hgle
         cases R2 with
         | none=>
           have HX2:Hid (R=none):=Lib.hid (by rw[HX0.out];exact z12 HX.out);go_wp2_with (go_at_call 44;((with_reducible refine(HKC.out _ hb).mono ?_));rintro e w5 ⟨⟨z5,rfl⟩,hb5⟩)
           go_ret2
           exact z0i HX2.out rfl (hb.trans (hb5.mono hb.size))
         | some g2=>
           have hg2:=hg2b g2 rfl;clear hg2b;go_wp2_with (go_at_call 44;((with_reducible refine(HKC.out _ hb).mono ?_));rintro e w5 ⟨rfl,hb5⟩)
           go_roundw
           case rel=>exact⟨j+1,g2,by omega,by go_num,rfl,HX.out,HB1.out.trans (hb5.mono (by simpa using HB1.out.size))⟩
           case measure=>simp[intOf];omega
        ·have HX2:Hid (R=some gj):=Lib.hid (by rw[HX0.out];have h:=HF.out;rw[List.take_of_length_le (show ks.length≤j by rw[←HM.out];omega)] at h;exact h)
         go_wp2
         go_ret2
         exact z21 HX2.out rfl hb
      ·skip
       have qm1:decide ((m:Int)<2)=true:=by simp;omega
       have qm2:decide (m<2)=true:=by simp;omega
       have HX:Hid (R=none):=Lib.hid (by rw[HR.out,z0w _ _ _ _ _ _ _ _ _ hlev (.inr rfl),if_neg (fun h=>hm2 (by rw[HM.out];exact h.2.2.2.2.2))]);clear HR hS hlo hhi hn hl1 hm2;go_enter Tryd.func44,Tryd.ntmps44;go_wp2
       go_ret2
       exact z0i HX.out rfl (z0e _ _ _)
     ·skip
      have ql1:decide ((0:Int)<(level:Int))=true:=by simp;omega
      have ql2:decide (0<level)=true:=by simp;omega
      have HX:Hid (R=none):=Lib.hid (by rw[HR.out,z0w _ _ _ _ _ _ _ _ _ hlev (.inr rfl),if_neg (fun h=>hl1 (by have:=h.2.2.2.2.1;omega))]);clear HR hS hlo hhi hn hl1;go_enter Tryd.func44,Tryd.ntmps44;go_wp2
      go_ret2
      exact z0i HX.out rfl (z0e _ _ _)
    ·skip
     have gn:(0 != n)=true:=by simp;omega
     have gn2:(n != 0)=true:=by simp;omega
     have HX:Hid (R=none):=Lib.hid (by rw[HR.out,z0w _ _ _ _ _ _ _ _ _ hlev (.inr rfl),if_neg (fun h=>hn h.2.2.2.1)]);clear HR hS hlo hhi hn;go_enter Tryd.func44,Tryd.ntmps44;go_wp2
     go_ret2
     exact z0i HX.out rfl (z0e _ _ _)
   ·skip
    have ghi:(0 != hi)=true:=by simp;omega
    have ghi2:(hi != 0)=true:=by simp;omega
    have HX:Hid (R=none):=Lib.hid (by rw[HR.out,z0w _ _ _ _ _ _ _ _ _ hlev (.inr rfl),if_neg (fun h=>hhi h.2.2.1)]);clear HR hS hlo hhi;go_enter Tryd.func44,Tryd.ntmps44;go_wp2
    go_ret2
    exact z0i HX.out rfl (z0e _ _ _)
  ·skip
   have glo:(0 != lo)=true:=by simp;omega
   have glo2:(lo != 0)=true:=by simp;omega
   have HX:Hid (R=none):=Lib.hid (by rw[HR.out,z0w _ _ _ _ _ _ _ _ _ hlev (.inr rfl),if_neg (fun h=>hlo h.2.1)]);clear HR hS hlo;go_enter Tryd.func44,Tryd.ntmps44;go_wp2
   go_ret2
   exact z0i HX.out rfl (z0e _ _ _)
 ·skip
  have gS:(!decide (none4=S))=true:=by simp[hS]
  simp only[gS] at hz1;clear gS;have HX:Hid (R=none):=Lib.hid (by rw[HR.out,z0w _ _ _ _ _ _ _ _ _ hlev (.inr rfl),if_neg (fun h=>hS h.1.symm)]);clear HR hS;go_enter Tryd.func44,Tryd.ntmps44;go_wp2
  go_ret2
  exact z0i HX.out rfl (z0e _ _ _)
theorem y3t (k:Int) (S:S4) (ks:List Re) (lo hi n:Int) (hk7:k<0∨7<k):FormC (.mk k S ks lo hi n):=by
 intro A c level d g w hk hlev hd hsz;obtain⟨R,hR⟩:∃ R,R=formR (.mk k S ks lo hi n) level d g:=⟨_,rfl⟩;rw[←hR];obtain⟨m,hm⟩:∃ m,m=ks.length:=⟨_,rfl⟩;have hz1:=fun W=>z2n S W
 have hz2:∀ W,(binOp .neq 24 (.agg #[.int .u64 S.1.toNat,.int .u64 S.2.1.toNat,.int .u64 S.2.2.1.toNat,.int .u64 S.2.2.2.toNat]) (.agg #[.int .u64 S.1.toNat,.int .u64 S.2.1.toNat,.int .u64 S.2.2.1.toNat,.int .u64 S.2.2.2.toNat])).run Tryd.prog W= .ok (.bool false) W:=fun W=>by rw[z2v];simp
 have hmx:=z00 ks;rw[sizeE] at hsz;have hm9:m≤1000000:=by omega
 have hg9:g≤1000000:=by omega
 simp only[valR];rw[←hm];obtain⟨s0,hs0⟩:∃ s0:Int,s0=S.1.toNat:=⟨_,rfl⟩;obtain⟨s1,hs1⟩:∃ s1:Int,s1=S.2.1.toNat:=⟨_,rfl⟩;obtain⟨s2,hs2⟩:∃ s2:Int,s2=S.2.2.1.toNat:=⟨_,rfl⟩;obtain⟨s3,hs3⟩:∃ s3:Int,s3=S.2.2.2.toNat:=⟨_,rfl⟩;rw[←hs0,←hs1,←hs2,←hs3] at hz1 hz2 ⊢;have HK:=Lib.hid hk;have HM:=Lib.hid hm;have HSZ:=Lib.hid hsz;have HR:=Lib.hid hR
 skip
 clear hk hs0 hs1 hs2 hs3 hm hsz hR hmx;by_cases hS:none4=S
 ·skip
  have gS:(!decide (none4=S))=false:=by simp[hS]
  simp only[gS] at hz1;clear gS;by_cases hlo:lo=0
  ·skip
   have glo:(0 != lo)=false:=by simp[hlo]
   have glo2:(lo != 0)=false:=by simp[hlo]
   by_cases hhi:hi=0
   ·skip
    have ghi:(0 != hi)=false:=by simp[hhi]
    have ghi2:(hi != 0)=false:=by simp[hhi]
    by_cases hn:n=0
    ·skip
     have gn:(0 != n)=false:=by simp[hn]
     have gn2:(n != 0)=false:=by simp[hn]
     by_cases hm0:m=0
     ·skip
      have qm1:decide ((0:Int)<(m:Int))=false:=by simp;omega
      have qm2:decide (0<m)=false:=by simp;omega
      by_cases hneg:k<0
      ·skip
       have b1:(k==1)=false:=by simp;omega
       have b6:(k==6)=false:=by simp;omega
       have b7:(k==7)=false:=by simp;omega
       have b4:(k==4)=false:=by simp;omega
       have b5:(k==5)=false:=by simp;omega
       have b0:(k==0)=false:=by simp;omega
       have bn:decide (k<0)=true:=by simp;omega
       have HX:Hid (R=none):=Lib.hid (by rw[HR.out,z14 _ _ _ _ _ _ _ _ _ hk7]);clear HR hneg hk7 hS hlo hhi hn hm0;go_enter Tryd.func44,Tryd.ntmps44;go_wp2
       go_ret2
       exact z0i HX.out rfl (z0e _ _ _)
      ·skip
       have b1:(k==1)=false:=by simp;omega
       have b6:(k==6)=false:=by simp;omega
       have b7:(k==7)=false:=by simp;omega
       have b4:(k==4)=false:=by simp;omega
       have b5:(k==5)=false:=by simp;omega
       have b0:(k==0)=false:=by simp;omega
       have bn:decide (k<0)=false:=by simp;omega
       have bg:decide (3<k)=true:=by simp;omega
       have HX:Hid (R=none):=Lib.hid (by rw[HR.out,z14 _ _ _ _ _ _ _ _ _ hk7]);clear HR hneg hk7 hS hlo hhi hn hm0;go_enter Tryd.func44,Tryd.ntmps44;go_wp2
       go_ret2
       exact z0i HX.out rfl (z0e _ _ _)
     ·skip
      have qm1:decide ((0:Int)<(m:Int))=true:=by simp;omega
      have qm2:decide (0<m)=true:=by simp;omega
      have HX:Hid (R=none):=Lib.hid (by rw[HR.out,z14 _ _ _ _ _ _ _ _ _ hk7]);clear HR hS hlo hhi hn hm0;go_enter Tryd.func44,Tryd.ntmps44;go_wp2
      go_ret2
      exact z0i HX.out rfl (z0e _ _ _)
    ·skip
     have gn:(0 != n)=true:=by simp;omega
     have gn2:(n != 0)=true:=by simp;omega
     have HX:Hid (R=none):=Lib.hid (by rw[HR.out,z14 _ _ _ _ _ _ _ _ _ hk7]);clear HR hS hlo hhi hn;go_enter Tryd.func44,Tryd.ntmps44;go_wp2
     go_ret2
     exact z0i HX.out rfl (z0e _ _ _)
   ·skip
    have ghi:(0 != hi)=true:=by simp;omega
    have ghi2:(hi != 0)=true:=by simp;omega
    have HX:Hid (R=none):=Lib.hid (by rw[HR.out,z14 _ _ _ _ _ _ _ _ _ hk7]);clear HR hS hlo hhi;go_enter Tryd.func44,Tryd.ntmps44;go_wp2
    go_ret2
    exact z0i HX.out rfl (z0e _ _ _)
  ·skip
   have glo:(0 != lo)=true:=by simp;omega
   have glo2:(lo != 0)=true:=by simp;omega
   have HX:Hid (R=none):=Lib.hid (by rw[HR.out,z14 _ _ _ _ _ _ _ _ _ hk7]);clear HR hS hlo;go_enter Tryd.func44,Tryd.ntmps44;go_wp2
   go_ret2
   exact z0i HX.out rfl (z0e _ _ _)
 ·skip
  have gS:(!decide (none4=S))=true:=by simp[hS]
  simp only[gS] at hz1;clear gS;have HX:Hid (R=none):=Lib.hid (by rw[HR.out,z14 _ _ _ _ _ _ _ _ _ hk7]);clear HR hS;go_enter Tryd.func44,Tryd.ntmps44;go_wp2
  go_ret2
  exact z0i HX.out rfl (z0e _ _ _)
theorem y68 (r:Re):FormC r:=by
 induction r using Re.ind with
 | h k S ks lo hi n ih=>
   by_cases k1:k=1
   ·subst k1;exact y4d S ks lo hi n
   ·by_cases k2:k=2
    ·subst k2;exact y5z S ks lo hi n
    ·by_cases k3:k=3
     ·subst k3;exact y1b S ks lo hi n
     ·by_cases k0:k=0
      ·subst k0;exact y39 S ks lo hi n
      ·by_cases k6:k=6
       ·subst k6;exact y6u S ks lo hi n ih
       ·by_cases k7:k=7
        ·subst k7;exact y1d S ks lo hi n ih
        ·by_cases k4:k=4
         ·subst k4;exact y4b S ks lo hi n ih
         ·by_cases k5:k=5
          ·subst k5;exact y3b S ks lo hi n ih
          ·exact y3t k S ks lo hi n (by omega)
end Go.Proofs.YtejgbpbljdhndaaDoor
