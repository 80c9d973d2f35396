import Derived.Test.YtejgbpbljdhndaaDoorTree2
import Derived.Test.YtejgbpbljdhndaaDoorPrint2
import Derived.Deep.DeepMust
import Derived.Deep.AppendLies
namespace Go.Proofs.YtejgbpbljdhndaaDoor
open Go Go.RowKit
set_option maxRecDepth 100000
set_option maxHeartbeats 4000000
def posS (R:Res (List Sp)):Nat:=match R with | .bad q=>q | .ok _ q=>q
def lstS (R:Res (List Sp)):List Sp:=match R with | .bad _=>[] | .ok l _=>l
def LoopS (s:ByteArray) (w0:World) (R:Res (List Sp)) (a v:Value) (w:World):Prop:=
 ∃ (k:Nat) (acc:List Sp),k≤s.size∧a= .int .i64 k∧goS s.data.toList k acc=R∧RowS w0.heap.size w0 w v acc∧acc.length≤k
theorem z1o (s:ByteArray) (i:Int) (k:Nat) (hi:i=k) (hk:k≤s.size) (hs:s.size≤1000000) {R:Res UInt8} (hR:rb sgI s.data.toList k=R) (w:World):
  Calls Tryd.prog 87 #[.string s,.int .i64 i] w fun e w'=>e= .returned (resR k R)∧w=w':=by
 subst hi hR;exact y4m s k hk hs w
theorem y1c {s:Bs} {k q:Nat} {lo:UInt8} (h:rb sgI s k= .ok lo q):(s[q]?=some 45→item s k=match rb sgI s (q+1) with
  | .bad q2=> .bad q2
  | .ok hi q2=>if (hi.toNat:Int)<(lo.toNat:Int) then .bad (q2 - 1) else .ok (lo,hi) q2)∧(s[q]?≠some 45→item s k= .ok (lo,lo) q):=by
 constructor
 ·intro h45;unfold item;rw[h];dsimp only;rw[if_pos h45];cases rb sgI s (q+1) <;> rfl
 ·intro h45;unfold item;rw[h];dsimp only;rw[if_neg h45]
def nxtS (R:Res (List Sp)):Int:=match R with | .bad _=> -1 | .ok _ q=>q
def badS (R:Res (List Sp)):Int:=match R with | .bad q=>q | .ok _ _=>0
theorem y03 {v:Value} {i:Int} {q:Nat} (h:i=q):Ending.returned (.tuple #[v,.int .i64 (-1),.int .i64 i])= .returned (.tuple #[v,.int .i64 (nxtS (.bad q)),.int .i64 (badS (.bad q))]):=by subst h;rfl
def PostR (w0:World) (R:Res (List Sp)) (e:Ending) (w':World):Prop:=
 ∃ v,e= .returned (.tuple #[v,.int .i64 (nxtS R),.int .i64 (badS R)])∧RowS w0.heap.size w0 w' v (lstS R)
theorem y30 (s:ByteArray) (k0:Nat) (hk0:k0≤s.size) (hs:s.size≤1000000) (w:World):
  Calls Tryd.prog 84 #[.string s,.int .i64 k0] w (PostR w (goS s.data.toList k0 [])):=by
 obtain⟨R,hR⟩:∃ R,R=goS s.data.toList k0 []:=⟨_,rfl⟩;rw[←hR];have HR:=Lib.hid hR.symm;obtain⟨i0,hi0,hz0,hz1,hz2⟩:=info_parts x0l;clear hR;go_enter Tryd.func84,Tryd.ntmps84;go_wp2
 go_loopw [1,7] (fun a v wr=>LoopS s w R a v wr) (fun a _ _=>s.size - (intOf a).toNat)
 case atStart=>exact⟨k0,[],hk0,rfl,HR.out,Row1.nil 138 2 w,by simp⟩
 case round=>
  obtain⟨k,acc,hk,rfl,hg,hT,hacc⟩:=hrel;have HG:=Lib.hid hg;have HT:=Lib.hid hT;clear hg hT
  rcases z3r HT.out.row with ⟨rfl,h0⟩ | ⟨g,cap,rfl,hcap⟩
  ·have hno:Hid (¬ (acc≠[]∧s.data.toList[k]?=some 93)):=Lib.hid (by rintro⟨h,_⟩;exact h (List.eq_nil_of_length_eq_zero h0))
   clear h0
   rcases h1:rb sgI s.data.toList k with q | ⟨lo,q⟩
   ·have HX:Hid (R= .bad q):=Lib.hid (by rw[←HG.out,z2j hno.out (by unfold item;rw[h1])])
    have KA:Hid (∀ w,Calls Tryd.prog 87 #[.string s,.int .i64 (k:Int)] w fun e w'=>e= .returned (.tuple #[.int .u8 0,.int .i64 (-1),.int .i64 q])∧w=w'):=Lib.hid fun w=>z1o s (k:Int) k rfl (by omega) hs h1 w
    clear h1;go_wp2_with (go_at_call 87;((with_reducible refine(KA.out _).mono ?_));rintro e w1 ⟨rfl,rfl⟩)
    go_ret3
    rw[HX.out];exact⟨_,rfl,⟨World.ownsRow_nil _ _ _ _,HT.out.below,HT.out.size⟩⟩
   ·obtain⟨q1,q2⟩:=rb_ok (by rw[z0o];exact hk) h1
    rw[z0o] at q2;obtain⟨n,rfl⟩:∃ n:Nat,q=k+n:=⟨q - k,by omega⟩;obtain⟨x,hx⟩:∃ x:Int,x=(lo.toNat:Int):=⟨_,rfl⟩;have HLO:=Lib.hid hx
    have KA:Hid (∀ w,Calls Tryd.prog 87 #[.string s,.int .i64 (k:Int)] w fun e w'=>e= .returned (.tuple #[.int .u8 x,.int .i64 n,.int .i64 0])∧w=w'):=Lib.hid fun w=>by
     have:=z1o s (k:Int) k rfl (by omega) hs h1 w;rw[z35 (n:=(n:Int)) (by omega),←hx] at this;exact this
    have hn2:n≤1000000:=by omega
    have hn0:0<n:=by omega
    have it:=y1c h1;clear h1 hx;by_cases a:k+n<s.size
    ·by_cases c45:s[k+n]=45
     ·have b45:((s[k+n].toNat:Int)==45)=true:=z24 (n:=45) c45 (by omega)
      have it2:=it.1 (by rw[z2g s (k+n) a,c45]);clear c45 it
      rcases h2:rb sgI s.data.toList (k+n+1) with r | ⟨hi,r⟩
      ·have HX:Hid (R= .bad r):=Lib.hid (by rw[←HG.out,z2j hno.out (by rw[it2,h2])])
       have KB:Hid (∀ w,Calls Tryd.prog 87 #[.string s,.int .i64 ((k:Int)+(n:Int)+1)] w fun e w'=>e= .returned (.tuple #[.int .u8 0,.int .i64 (-1),.int .i64 r])∧w=w'):=Lib.hid fun w=>z1o s ((k:Int)+(n:Int)+1) (k+n+1) (by omega) (by omega) hs h2 w
       clear h2 it2;go_wp2_with (first | (go_at_call 87;((with_reducible refine(KA.out _).mono ?_));rintro e w1 ⟨rfl,rfl⟩) | (go_at_call 87;((with_reducible refine(KB.out _).mono ?_));rintro e w1 ⟨rfl,rfl⟩))
       go_ret3
       rw[HX.out];exact⟨_,rfl,⟨World.ownsRow_nil _ _ _ _,HT.out.below,HT.out.size⟩⟩
      ·obtain⟨r1,r2⟩:=rb_ok (by rw[z0o];omega) h2
       rw[z0o] at r2;obtain⟨d,rfl⟩:∃ d:Nat,r=k+n+1+d:=⟨r - (k+n+1),by omega⟩;obtain⟨y,hy⟩:∃ y:Int,y=(hi.toNat:Int):=⟨_,rfl⟩;have HHI:=Lib.hid hy
       have KB:Hid (∀ w,Calls Tryd.prog 87 #[.string s,.int .i64 ((k:Int)+(n:Int)+1)] w fun e w'=>e= .returned (.tuple #[.int .u8 y,.int .i64 d,.int .i64 0])∧w=w'):=Lib.hid fun w=>by
        have:=z1o s ((k:Int)+(n:Int)+1) (k+n+1) (by omega) (by omega) hs h2 w;rw[z35 (n:=(d:Int)) (by omega),←hy] at this;exact this
       rw[h2] at it2;dsimp only at it2;rw[←HLO.out,←hy] at it2;have hd2:d≤1000000:=by omega
       by_cases hlt:y<x
       ·rw[if_pos hlt] at it2
        have HX:Hid (R= .bad (k+n+1+d - 1)):=Lib.hid (by rw[←HG.out,z2j hno.out it2]);clear h2 hy it2;go_wp2_with (first | (go_at_call 87;((with_reducible refine(KA.out _).mono ?_));rintro e w1 ⟨rfl,rfl⟩) | (go_at_call 87;((with_reducible refine(KB.out _).mono ?_));rintro e w1 ⟨rfl,rfl⟩))
        go_ret3
        rw[HX.out];exact⟨_,y03 (v:= .slice none 0 0) (i:=(k:Int)+(n:Int)+(d:Int)) (q:=k+n+1+d - 1) (by omega),⟨World.ownsRow_nil _ _ _ _,HT.out.below,HT.out.size⟩⟩
       ·rw[if_neg hlt] at it2
        have HX:Hid (goS s.data.toList (k+n+1+d) (acc++[(lo,hi)])=R):=Lib.hid (by rw[←HG.out,z3u hno.out (by rw[z0o];exact hk) it2]);clear h2 hy it2;go_wp2_with (first | (go_at_call 87;((with_reducible refine(KA.out _).mono ?_));rintro e w1 ⟨rfl,rfl⟩) | (go_at_call 87;((with_reducible refine(KB.out _).mono ?_));rintro e w1 ⟨rfl,rfl⟩) | (at_builtin;refine wpList_append_own _ rfl (.tmp 75) (.tmp 79) 136 rfl w.heap.size 138 i0 (.agg #[.int .u8 0,.int .u8 0]) 2 2 Tryd.underlying136 hi0 hz0 hz1 hz2 rfl (by decide) _ _ _ rfl (HT.out.alloc _).row ⟨wr.heap.size,0,none⟩ 1 1 [.int .u8 x,.int .u8 y] rfl rfl (fun j u hu=>z0l wr 138 #[.int .u8 x,.int .u8 y] j u hu) (z2s _ _) (by unfold maxLen;omega) (by omega) (HT.out.alloc _).size ?_;intro v2 w3 hown' hgrow _))
        go_roundw
        case rel=>exact⟨k+n+1+d,acc++[(lo,hi)],r2,by go_num,HX.out,(HT.out.alloc _).span (p:=(lo,hi)) (by rw[HLO.out,HHI.out] at hown';exact hown') hgrow,by rw[List.length_append];simp;omega⟩
        case measure=>simp[intOf];omega
     ·have b45:((s[k+n].toNat:Int)==45)=false:=z2h (n:=45) c45 (by omega)
      have it2:=it.2 (by rw[z2g s (k+n) a];simpa using c45);have HX:Hid (goS s.data.toList (k+n) (acc++[(lo,lo)])=R):=Lib.hid (by rw[←HG.out,z3u hno.out (by rw[z0o];exact hk) it2]);clear c45 it it2;go_wp2_with (first | (go_at_call 87;((with_reducible refine(KA.out _).mono ?_));rintro e w1 ⟨rfl,rfl⟩) | (at_builtin;refine wpList_append_own _ rfl (.tmp 75) (.tmp 79) 136 rfl w.heap.size 138 i0 (.agg #[.int .u8 0,.int .u8 0]) 2 2 Tryd.underlying136 hi0 hz0 hz1 hz2 rfl (by decide) _ _ _ rfl (HT.out.alloc _).row ⟨wr.heap.size,0,none⟩ 1 1 [.int .u8 x,.int .u8 x] rfl rfl (fun j u hu=>z0l wr 138 #[.int .u8 x,.int .u8 x] j u hu) (z2s _ _) (by unfold maxLen;omega) (by omega) (HT.out.alloc _).size ?_;intro v2 w3 hown' hgrow _))
      go_roundw
      case rel=>exact⟨k+n,acc++[(lo,lo)],q2,by go_num,HX.out,(HT.out.alloc _).span (p:=(lo,lo)) (by rw[HLO.out] at hown';exact hown') hgrow,by rw[List.length_append];simp;omega⟩
      case measure=>simp[intOf];omega
    ·have it2:=it.2 (by rw[z3h s (k+n) a];simp)
     have HX:Hid (goS s.data.toList (k+n) (acc++[(lo,lo)])=R):=Lib.hid (by rw[←HG.out,z3u hno.out (by rw[z0o];exact hk) it2]);clear it it2;go_wp2_with (first | (go_at_call 87;((with_reducible refine(KA.out _).mono ?_));rintro e w1 ⟨rfl,rfl⟩) | (at_builtin;refine wpList_append_own _ rfl (.tmp 75) (.tmp 79) 136 rfl w.heap.size 138 i0 (.agg #[.int .u8 0,.int .u8 0]) 2 2 Tryd.underlying136 hi0 hz0 hz1 hz2 rfl (by decide) _ _ _ rfl (HT.out.alloc _).row ⟨wr.heap.size,0,none⟩ 1 1 [.int .u8 x,.int .u8 x] rfl rfl (fun j u hu=>z0l wr 138 #[.int .u8 x,.int .u8 x] j u hu) (z2s _ _) (by unfold maxLen;omega) (by omega) (HT.out.alloc _).size ?_;intro v2 w3 hown' hgrow _))
     go_roundw
     case rel=>exact⟨k+n,acc++[(lo,lo)],q2,by go_num,HX.out,(HT.out.alloc _).span (p:=(lo,lo)) (by rw[HLO.out] at hown';exact hown') hgrow,by rw[List.length_append];simp;omega⟩
     case measure=>simp[intOf];omega
  ·obtain⟨m,hm⟩:∃ m,m=acc.length:=⟨_,rfl⟩
   have hacc2:=hacc;rw[←hm] at hacc hcap HT ⊢;have HM:=Lib.hid hm;clear hm;by_cases h0:0<m
   ·have hne:acc≠[]:=by
     rintro rfl;have:=HM.out;simp at this;omega
    by_cases a:k<s.size
    ·by_cases c93:s[k]=93
     ·have b93:((s[k].toNat:Int)==93)=true:=z24 (n:=93) c93 (by omega)
      have HX:Hid (R= .ok acc (k+1)):=Lib.hid (by rw[←HG.out,z8q hne (by rw[z2g s k a,c93])]);clear c93 hne;go_wp2
      go_ret3
      rw[HX.out];have:=HT.out;rw[HM.out] at this ⊢;exact⟨_,rfl,this⟩
     ·have b93:((s[k].toNat:Int)==93)=false:=z2h (n:=93) c93 (by omega)
      have hno:Hid (¬ (acc≠[]∧s.data.toList[k]?=some 93)):=Lib.hid (by rintro⟨_,h⟩;rw[z2g s k a] at h;injection h with h;exact c93 h);clear c93 hne
      rcases h1:rb sgI s.data.toList k with q | ⟨lo,q⟩
      ·have HX:Hid (R= .bad q):=Lib.hid (by rw[←HG.out,z2j hno.out (by unfold item;rw[h1])])
       have KA:Hid (∀ w,Calls Tryd.prog 87 #[.string s,.int .i64 (k:Int)] w fun e w'=>e= .returned (.tuple #[.int .u8 0,.int .i64 (-1),.int .i64 q])∧w=w'):=Lib.hid fun w=>z1o s (k:Int) k rfl (by omega) hs h1 w
       clear h1;go_wp2_with (go_at_call 87;((with_reducible refine(KA.out _).mono ?_));rintro e w1 ⟨rfl,rfl⟩)
       go_ret3
       rw[HX.out];exact⟨_,rfl,⟨World.ownsRow_nil _ _ _ _,HT.out.below,HT.out.size⟩⟩
      ·obtain⟨q1,q2⟩:=rb_ok (by rw[z0o];exact hk) h1
       rw[z0o] at q2;obtain⟨n,rfl⟩:∃ n:Nat,q=k+n:=⟨q - k,by omega⟩;obtain⟨x,hx⟩:∃ x:Int,x=(lo.toNat:Int):=⟨_,rfl⟩;have HLO:=Lib.hid hx
       have KA:Hid (∀ w,Calls Tryd.prog 87 #[.string s,.int .i64 (k:Int)] w fun e w'=>e= .returned (.tuple #[.int .u8 x,.int .i64 n,.int .i64 0])∧w=w'):=Lib.hid fun w=>by
        have:=z1o s (k:Int) k rfl (by omega) hs h1 w;rw[z35 (n:=(n:Int)) (by omega),←hx] at this;exact this
       have hn2:n≤1000000:=by omega
       have hn0:0<n:=by omega
       have it:=y1c h1;clear h1 hx;by_cases a:k+n<s.size
       ·by_cases c45:s[k+n]=45
        ·have b45:((s[k+n].toNat:Int)==45)=true:=z24 (n:=45) c45 (by omega)
         have it2:=it.1 (by rw[z2g s (k+n) a,c45]);clear c45 it
         rcases h2:rb sgI s.data.toList (k+n+1) with r | ⟨hi,r⟩
         ·have HX:Hid (R= .bad r):=Lib.hid (by rw[←HG.out,z2j hno.out (by rw[it2,h2])])
          have KB:Hid (∀ w,Calls Tryd.prog 87 #[.string s,.int .i64 ((k:Int)+(n:Int)+1)] w fun e w'=>e= .returned (.tuple #[.int .u8 0,.int .i64 (-1),.int .i64 r])∧w=w'):=Lib.hid fun w=>z1o s ((k:Int)+(n:Int)+1) (k+n+1) (by omega) (by omega) hs h2 w
          clear h2 it2;go_wp2_with (first | (go_at_call 87;((with_reducible refine(KA.out _).mono ?_));rintro e w1 ⟨rfl,rfl⟩) | (go_at_call 87;((with_reducible refine(KB.out _).mono ?_));rintro e w1 ⟨rfl,rfl⟩))
          go_ret3
          rw[HX.out];exact⟨_,rfl,⟨World.ownsRow_nil _ _ _ _,HT.out.below,HT.out.size⟩⟩
         ·obtain⟨r1,r2⟩:=rb_ok (by rw[z0o];omega) h2
          rw[z0o] at r2;obtain⟨d,rfl⟩:∃ d:Nat,r=k+n+1+d:=⟨r - (k+n+1),by omega⟩;obtain⟨y,hy⟩:∃ y:Int,y=(hi.toNat:Int):=⟨_,rfl⟩;have HHI:=Lib.hid hy
          have KB:Hid (∀ w,Calls Tryd.prog 87 #[.string s,.int .i64 ((k:Int)+(n:Int)+1)] w fun e w'=>e= .returned (.tuple #[.int .u8 y,.int .i64 d,.int .i64 0])∧w=w'):=Lib.hid fun w=>by
           have:=z1o s ((k:Int)+(n:Int)+1) (k+n+1) (by omega) (by omega) hs h2 w;rw[z35 (n:=(d:Int)) (by omega),←hy] at this;exact this
          rw[h2] at it2;dsimp only at it2;rw[←HLO.out,←hy] at it2;have hd2:d≤1000000:=by omega
          by_cases hlt:y<x
          ·rw[if_pos hlt] at it2
           have HX:Hid (R= .bad (k+n+1+d - 1)):=Lib.hid (by rw[←HG.out,z2j hno.out it2]);clear h2 hy it2;go_wp2_with (first | (go_at_call 87;((with_reducible refine(KA.out _).mono ?_));rintro e w1 ⟨rfl,rfl⟩) | (go_at_call 87;((with_reducible refine(KB.out _).mono ?_));rintro e w1 ⟨rfl,rfl⟩))
           go_ret3
           rw[HX.out];exact⟨_,y03 (v:= .slice none 0 0) (i:=(k:Int)+(n:Int)+(d:Int)) (q:=k+n+1+d - 1) (by omega),⟨World.ownsRow_nil _ _ _ _,HT.out.below,HT.out.size⟩⟩
          ·rw[if_neg hlt] at it2
           have HX:Hid (goS s.data.toList (k+n+1+d) (acc++[(lo,hi)])=R):=Lib.hid (by rw[←HG.out,z3u hno.out (by rw[z0o];exact hk) it2]);clear h2 hy it2;go_wp2_with (first | (go_at_call 87;((with_reducible refine(KA.out _).mono ?_));rintro e w1 ⟨rfl,rfl⟩) | (go_at_call 87;((with_reducible refine(KB.out _).mono ?_));rintro e w1 ⟨rfl,rfl⟩) | (at_builtin;refine wpList_append_own _ rfl (.tmp 75) (.tmp 79) 136 rfl w.heap.size 138 i0 (.agg #[.int .u8 0,.int .u8 0]) 2 2 Tryd.underlying136 hi0 hz0 hz1 hz2 rfl (by decide) _ _ _ rfl (HT.out.alloc _).row ⟨wr.heap.size,0,none⟩ 1 1 [.int .u8 x,.int .u8 y] rfl rfl (fun j u hu=>z0l wr 138 #[.int .u8 x,.int .u8 y] j u hu) (z2s _ _) (by unfold maxLen;omega) (by omega) (HT.out.alloc _).size ?_;intro v2 w3 hown' hgrow _))
           go_roundw
           case rel=>exact⟨k+n+1+d,acc++[(lo,hi)],r2,by go_num,HX.out,(HT.out.alloc _).span (p:=(lo,hi)) (by rw[HLO.out,HHI.out] at hown';exact hown') hgrow,by rw[List.length_append];simp;omega⟩
           case measure=>simp[intOf];omega
        ·have b45:((s[k+n].toNat:Int)==45)=false:=z2h (n:=45) c45 (by omega)
         have it2:=it.2 (by rw[z2g s (k+n) a];simpa using c45);have HX:Hid (goS s.data.toList (k+n) (acc++[(lo,lo)])=R):=Lib.hid (by rw[←HG.out,z3u hno.out (by rw[z0o];exact hk) it2]);clear c45 it it2;go_wp2_with (first | (go_at_call 87;((with_reducible refine(KA.out _).mono ?_));rintro e w1 ⟨rfl,rfl⟩) | (at_builtin;refine wpList_append_own _ rfl (.tmp 75) (.tmp 79) 136 rfl w.heap.size 138 i0 (.agg #[.int .u8 0,.int .u8 0]) 2 2 Tryd.underlying136 hi0 hz0 hz1 hz2 rfl (by decide) _ _ _ rfl (HT.out.alloc _).row ⟨wr.heap.size,0,none⟩ 1 1 [.int .u8 x,.int .u8 x] rfl rfl (fun j u hu=>z0l wr 138 #[.int .u8 x,.int .u8 x] j u hu) (z2s _ _) (by unfold maxLen;omega) (by omega) (HT.out.alloc _).size ?_;intro v2 w3 hown' hgrow _))
         go_roundw
         case rel=>exact⟨k+n,acc++[(lo,lo)],q2,by go_num,HX.out,(HT.out.alloc _).span (p:=(lo,lo)) (by rw[HLO.out] at hown';exact hown') hgrow,by rw[List.length_append];simp;omega⟩
         case measure=>simp[intOf];omega
       ·have it2:=it.2 (by rw[z3h s (k+n) a];simp)
        have HX:Hid (goS s.data.toList (k+n) (acc++[(lo,lo)])=R):=Lib.hid (by rw[←HG.out,z3u hno.out (by rw[z0o];exact hk) it2]);clear it it2;go_wp2_with (first | (go_at_call 87;((with_reducible refine(KA.out _).mono ?_));rintro e w1 ⟨rfl,rfl⟩) | (at_builtin;refine wpList_append_own _ rfl (.tmp 75) (.tmp 79) 136 rfl w.heap.size 138 i0 (.agg #[.int .u8 0,.int .u8 0]) 2 2 Tryd.underlying136 hi0 hz0 hz1 hz2 rfl (by decide) _ _ _ rfl (HT.out.alloc _).row ⟨wr.heap.size,0,none⟩ 1 1 [.int .u8 x,.int .u8 x] rfl rfl (fun j u hu=>z0l wr 138 #[.int .u8 x,.int .u8 x] j u hu) (z2s _ _) (by unfold maxLen;omega) (by omega) (HT.out.alloc _).size ?_;intro v2 w3 hown' hgrow _))
        go_roundw
        case rel=>exact⟨k+n,acc++[(lo,lo)],q2,by go_num,HX.out,(HT.out.alloc _).span (p:=(lo,lo)) (by rw[HLO.out] at hown';exact hown') hgrow,by rw[List.length_append];simp;omega⟩
        case measure=>simp[intOf];omega
    ·have hno:Hid (¬ (acc≠[]∧s.data.toList[k]?=some 93)):=Lib.hid (by rintro⟨_,h⟩;rw[z3h s k a] at h;cases h)
     clear hne
     rcases h1:rb sgI s.data.toList k with q | ⟨lo,q⟩
     ·have HX:Hid (R= .bad q):=Lib.hid (by rw[←HG.out,z2j hno.out (by unfold item;rw[h1])])
      have KA:Hid (∀ w,Calls Tryd.prog 87 #[.string s,.int .i64 (k:Int)] w fun e w'=>e= .returned (.tuple #[.int .u8 0,.int .i64 (-1),.int .i64 q])∧w=w'):=Lib.hid fun w=>z1o s (k:Int) k rfl (by omega) hs h1 w
      clear h1;go_wp2_with (go_at_call 87;((with_reducible refine(KA.out _).mono ?_));rintro e w1 ⟨rfl,rfl⟩)
      go_ret3
      rw[HX.out];exact⟨_,rfl,⟨World.ownsRow_nil _ _ _ _,HT.out.below,HT.out.size⟩⟩
     ·exfalso
      obtain⟨q1,q2⟩:=rb_ok (by rw[z0o];exact hk) h1;rw[z0o] at q2;omega
   ·have hno:Hid (¬ (acc≠[]∧s.data.toList[k]?=some 93)):=Lib.hid (by rintro⟨h,_⟩;exact h (List.eq_nil_of_length_eq_zero (by rw[←HM.out];omega)))
    rcases h1:rb sgI s.data.toList k with q | ⟨lo,q⟩
    ·have HX:Hid (R= .bad q):=Lib.hid (by rw[←HG.out,z2j hno.out (by unfold item;rw[h1])])
     have KA:Hid (∀ w,Calls Tryd.prog 87 #[.string s,.int .i64 (k:Int)] w fun e w'=>e= .returned (.tuple #[.int .u8 0,.int .i64 (-1),.int .i64 q])∧w=w'):=Lib.hid fun w=>z1o s (k:Int) k rfl (by omega) hs h1 w
     clear h1;go_wp2_with (go_at_call 87;((with_reducible refine(KA.out _).mono ?_));rintro e w1 ⟨rfl,rfl⟩)
     go_ret3
     rw[HX.out];exact⟨_,rfl,⟨World.ownsRow_nil _ _ _ _,HT.out.below,HT.out.size⟩⟩
    ·obtain⟨q1,q2⟩:=rb_ok (by rw[z0o];exact hk) h1
     rw[z0o] at q2;obtain⟨n,rfl⟩:∃ n:Nat,q=k+n:=⟨q - k,by omega⟩;obtain⟨x,hx⟩:∃ x:Int,x=(lo.toNat:Int):=⟨_,rfl⟩;have HLO:=Lib.hid hx
     have KA:Hid (∀ w,Calls Tryd.prog 87 #[.string s,.int .i64 (k:Int)] w fun e w'=>e= .returned (.tuple #[.int .u8 x,.int .i64 n,.int .i64 0])∧w=w'):=Lib.hid fun w=>by
      have:=z1o s (k:Int) k rfl (by omega) hs h1 w;rw[z35 (n:=(n:Int)) (by omega),←hx] at this;exact this
     have hn2:n≤1000000:=by omega
     have hn0:0<n:=by omega
     have it:=y1c h1;clear h1 hx;by_cases a:k+n<s.size
     ·by_cases c45:s[k+n]=45
      ·have b45:((s[k+n].toNat:Int)==45)=true:=z24 (n:=45) c45 (by omega)
       have it2:=it.1 (by rw[z2g s (k+n) a,c45]);clear c45 it
       rcases h2:rb sgI s.data.toList (k+n+1) with r | ⟨hi,r⟩
       ·have HX:Hid (R= .bad r):=Lib.hid (by rw[←HG.out,z2j hno.out (by rw[it2,h2])])
        have KB:Hid (∀ w,Calls Tryd.prog 87 #[.string s,.int .i64 ((k:Int)+(n:Int)+1)] w fun e w'=>e= .returned (.tuple #[.int .u8 0,.int .i64 (-1),.int .i64 r])∧w=w'):=Lib.hid fun w=>z1o s ((k:Int)+(n:Int)+1) (k+n+1) (by omega) (by omega) hs h2 w
        clear h2 it2;go_wp2_with (first | (go_at_call 87;((with_reducible refine(KA.out _).mono ?_));rintro e w1 ⟨rfl,rfl⟩) | (go_at_call 87;((with_reducible refine(KB.out _).mono ?_));rintro e w1 ⟨rfl,rfl⟩))
        go_ret3
        rw[HX.out];exact⟨_,rfl,⟨World.ownsRow_nil _ _ _ _,HT.out.below,HT.out.size⟩⟩
       ·obtain⟨r1,r2⟩:=rb_ok (by rw[z0o];omega) h2
        rw[z0o] at r2;obtain⟨d,rfl⟩:∃ d:Nat,r=k+n+1+d:=⟨r - (k+n+1),by omega⟩;obtain⟨y,hy⟩:∃ y:Int,y=(hi.toNat:Int):=⟨_,rfl⟩;have HHI:=Lib.hid hy
        have KB:Hid (∀ w,Calls Tryd.prog 87 #[.string s,.int .i64 ((k:Int)+(n:Int)+1)] w fun e w'=>e= .returned (.tuple #[.int .u8 y,.int .i64 d,.int .i64 0])∧w=w'):=Lib.hid fun w=>by
         have:=z1o s ((k:Int)+(n:Int)+1) (k+n+1) (by omega) (by omega) hs h2 w;rw[z35 (n:=(d:Int)) (by omega),←hy] at this;exact this
        rw[h2] at it2;dsimp only at it2;rw[←HLO.out,←hy] at it2;have hd2:d≤1000000:=by omega
        by_cases hlt:y<x
        ·rw[if_pos hlt] at it2
         have HX:Hid (R= .bad (k+n+1+d - 1)):=Lib.hid (by rw[←HG.out,z2j hno.out it2]);clear h2 hy it2;go_wp2_with (first | (go_at_call 87;((with_reducible refine(KA.out _).mono ?_));rintro e w1 ⟨rfl,rfl⟩) | (go_at_call 87;((with_reducible refine(KB.out _).mono ?_));rintro e w1 ⟨rfl,rfl⟩))
         go_ret3
         rw[HX.out];exact⟨_,y03 (v:= .slice none 0 0) (i:=(k:Int)+(n:Int)+(d:Int)) (q:=k+n+1+d - 1) (by omega),⟨World.ownsRow_nil _ _ _ _,HT.out.below,HT.out.size⟩⟩
        ·rw[if_neg hlt] at it2
         have HX:Hid (goS s.data.toList (k+n+1+d) (acc++[(lo,hi)])=R):=Lib.hid (by rw[←HG.out,z3u hno.out (by rw[z0o];exact hk) it2]);clear h2 hy it2;go_wp2_with (first | (go_at_call 87;((with_reducible refine(KA.out _).mono ?_));rintro e w1 ⟨rfl,rfl⟩) | (go_at_call 87;((with_reducible refine(KB.out _).mono ?_));rintro e w1 ⟨rfl,rfl⟩) | (at_builtin;refine wpList_append_own _ rfl (.tmp 75) (.tmp 79) 136 rfl w.heap.size 138 i0 (.agg #[.int .u8 0,.int .u8 0]) 2 2 Tryd.underlying136 hi0 hz0 hz1 hz2 rfl (by decide) _ _ _ rfl (HT.out.alloc _).row ⟨wr.heap.size,0,none⟩ 1 1 [.int .u8 x,.int .u8 y] rfl rfl (fun j u hu=>z0l wr 138 #[.int .u8 x,.int .u8 y] j u hu) (z2s _ _) (by unfold maxLen;omega) (by omega) (HT.out.alloc _).size ?_;intro v2 w3 hown' hgrow _))
         go_roundw
         case rel=>exact⟨k+n+1+d,acc++[(lo,hi)],r2,by go_num,HX.out,(HT.out.alloc _).span (p:=(lo,hi)) (by rw[HLO.out,HHI.out] at hown';exact hown') hgrow,by rw[List.length_append];simp;omega⟩
         case measure=>simp[intOf];omega
      ·have b45:((s[k+n].toNat:Int)==45)=false:=z2h (n:=45) c45 (by omega)
       have it2:=it.2 (by rw[z2g s (k+n) a];simpa using c45);have HX:Hid (goS s.data.toList (k+n) (acc++[(lo,lo)])=R):=Lib.hid (by rw[←HG.out,z3u hno.out (by rw[z0o];exact hk) it2]);clear c45 it it2;go_wp2_with (first | (go_at_call 87;((with_reducible refine(KA.out _).mono ?_));rintro e w1 ⟨rfl,rfl⟩) | (at_builtin;refine wpList_append_own _ rfl (.tmp 75) (.tmp 79) 136 rfl w.heap.size 138 i0 (.agg #[.int .u8 0,.int .u8 0]) 2 2 Tryd.underlying136 hi0 hz0 hz1 hz2 rfl (by decide) _ _ _ rfl (HT.out.alloc _).row ⟨wr.heap.size,0,none⟩ 1 1 [.int .u8 x,.int .u8 x] rfl rfl (fun j u hu=>z0l wr 138 #[.int .u8 x,.int .u8 x] j u hu) (z2s _ _) (by unfold maxLen;omega) (by omega) (HT.out.alloc _).size ?_;intro v2 w3 hown' hgrow _))
       go_roundw
       case rel=>exact⟨k+n,acc++[(lo,lo)],q2,by go_num,HX.out,(HT.out.alloc _).span (p:=(lo,lo)) (by rw[HLO.out] at hown';exact hown') hgrow,by rw[List.length_append];simp;omega⟩
       case measure=>simp[intOf];omega
     ·have it2:=it.2 (by rw[z3h s (k+n) a];simp)
      have HX:Hid (goS s.data.toList (k+n) (acc++[(lo,lo)])=R):=Lib.hid (by rw[←HG.out,z3u hno.out (by rw[z0o];exact hk) it2]);clear it it2;go_wp2_with (first | (go_at_call 87;((with_reducible refine(KA.out _).mono ?_));rintro e w1 ⟨rfl,rfl⟩) | (at_builtin;refine wpList_append_own _ rfl (.tmp 75) (.tmp 79) 136 rfl w.heap.size 138 i0 (.agg #[.int .u8 0,.int .u8 0]) 2 2 Tryd.underlying136 hi0 hz0 hz1 hz2 rfl (by decide) _ _ _ rfl (HT.out.alloc _).row ⟨wr.heap.size,0,none⟩ 1 1 [.int .u8 x,.int .u8 x] rfl rfl (fun j u hu=>z0l wr 138 #[.int .u8 x,.int .u8 x] j u hu) (z2s _ _) (by unfold maxLen;omega) (by omega) (HT.out.alloc _).size ?_;intro v2 w3 hown' hgrow _))
      go_roundw
      case rel=>exact⟨k+n,acc++[(lo,lo)],q2,by go_num,HX.out,(HT.out.alloc _).span (p:=(lo,lo)) (by rw[HLO.out] at hown';exact hown') hgrow,by rw[List.length_append];simp;omega⟩
      case measure=>simp[intOf];omega
structure Rdr (b:Nat) (w:World) (s:ByteArray) (k g o:Nat):Prop where
 c0:w.cell? ⟨b,0,none⟩=some (.string s)
 c1:w.cell? ⟨b,1,none⟩=some (.int .i64 k)
 c2:w.cell? ⟨b,2,none⟩=some (.int .i64 g)
 c3:w.cell? ⟨b,3,none⟩=some (.int .i64 o)
 f1:w.frozen? ⟨b,1,none⟩=false
 f2:w.frozen? ⟨b,2,none⟩=false
 f3:w.frozen? ⟨b,3,none⟩=false
theorem Rdr.lt {b:Nat} {w:World} {s:ByteArray} {k g o:Nat} (h:Rdr b w s k g o):b<w.heap.size:=World.block_lt_of_cell? w _ h.c0
theorem Rdr.below {b:Nat} {w w':World} {s:ByteArray} {k g o:Nat} (h:Rdr b w s k g o) (hb:Below w.heap.size w w'):Rdr b w' s k g o:=
 have hl:=h.lt;have c:∀ j,w'.cell? ⟨b,j,none⟩=w.cell? ⟨b,j,none⟩:=fun j=>hb.cell (p:=⟨b,j,none⟩) hl
 have f:∀ j,w'.frozen? ⟨b,j,none⟩=w.frozen? ⟨b,j,none⟩:=fun j=>hb.frozen (p:=⟨b,j,none⟩) hl
 ⟨(c _).trans h.c0,(c _).trans h.c1,(c _).trans h.c2,(c _).trans h.c3,(f _).trans h.f1,(f _).trans h.f2,(f _).trans h.f3⟩
theorem Rdr.at_ {b:Nat} {w:World} {s:ByteArray} {k g o:Nat} (h:Rdr b w s k g o) (k':Nat):Rdr b (w.setCell ⟨b,1,none⟩ (.int .i64 k')) s k' g o:=by
 refine⟨?_,World.cell?_setCell_same _ _ _ h.c1,?_,?_,by rw[World.frozen?_setCell];exact h.f1,by rw[World.frozen?_setCell];exact h.f2,by rw[World.frozen?_setCell];exact h.f3⟩
 ·rw[World.cell?_setCell_other _ _ _ _ (by simp)];exact h.c0
 ·rw[World.cell?_setCell_other _ _ _ _ (by simp)];exact h.c2
 ·rw[World.cell?_setCell_other _ _ _ _ (by simp)];exact h.c3
theorem Rdr.groups_ {b:Nat} {w:World} {s:ByteArray} {k g o:Nat} (h:Rdr b w s k g o) (g':Nat):Rdr b (w.setCell ⟨b,2,none⟩ (.int .i64 g')) s k g' o:=by
 refine⟨?_,?_,World.cell?_setCell_same _ _ _ h.c2,?_,by rw[World.frozen?_setCell];exact h.f1,by rw[World.frozen?_setCell];exact h.f2,by rw[World.frozen?_setCell];exact h.f3⟩
 ·rw[World.cell?_setCell_other _ _ _ _ (by simp)];exact h.c0
 ·rw[World.cell?_setCell_other _ _ _ _ (by simp)];exact h.c1
 ·rw[World.cell?_setCell_other _ _ _ _ (by simp)];exact h.c3
theorem Rdr.open_ {b:Nat} {w:World} {s:ByteArray} {k g o:Nat} (h:Rdr b w s k g o) (o':Nat):Rdr b (w.setCell ⟨b,3,none⟩ (.int .i64 o')) s k g o':=by
 refine⟨?_,?_,?_,World.cell?_setCell_same _ _ _ h.c3,by rw[World.frozen?_setCell];exact h.f1,by rw[World.frozen?_setCell];exact h.f2,by rw[World.frozen?_setCell];exact h.f3⟩
 ·rw[World.cell?_setCell_other _ _ _ _ (by simp)];exact h.c0
 ·rw[World.cell?_setCell_other _ _ _ _ (by simp)];exact h.c1
 ·rw[World.cell?_setCell_other _ _ _ _ (by simp)];exact h.c2
theorem Rdr.drews {b:Nat} {w:World} {s:ByteArray} {k g o:Nat} (h:Rdr b w s k g o) (m:Nat):Rdr b (w.drewN m) s k g o:=⟨h.c0,h.c1,h.c2,h.c3,h.f1,h.f2,h.f3⟩
theorem z0g (w:World) (m:Nat):Below w.heap.size w (w.drewN m):=⟨rfl,rfl,rfl,Nat.le_refl _,fun _ _=>rfl⟩
theorem z5j (w:World) (b:Nat):w.grownBy w (some b):=z0d b 0 w
theorem Rdr.other {b:Nat} {w:World} {s:ByteArray} {k g o:Nat} (h:Rdr b w s k g o) {a:Addr} (ha:a.block≠b) (u:Value):Rdr b (w.setCell a u) s k g o:=by
 have c:∀ j,(w.setCell a u).cell? ⟨b,j,none⟩=w.cell? ⟨b,j,none⟩:=fun j=>World.cell?_setCell_other _ _ _ _ (fun e=>ha (by rw[e]))
 have f:∀ j,(w.setCell a u).frozen? ⟨b,j,none⟩=w.frozen? ⟨b,j,none⟩:=fun j=>World.frozen?_setCell _ _ _ _
 exact⟨(c _).trans h.c0,(c _).trans h.c1,(c _).trans h.c2,(c _).trans h.c3,(f _).trans h.f1,(f _).trans h.f2,(f _).trans h.f3⟩
def Fr (lo hi:Nat):Nat→Prop:=fun k=>lo≤k∧k<hi
theorem Kids.wide {lo hi lo' hi':Nat} {w:World} {A:Option Addr} {r:Re} (h:Kids (Fr lo hi) w A r) (h1:lo'≤lo) (h2:hi≤hi'):Kids (Fr lo' hi') w A r:=
 z05 (fun _ _=>rfl) (fun _ hk=>⟨Nat.le_trans h1 hk.1,Nat.lt_of_lt_of_le hk.2 h2⟩) r A h
theorem Kids.grownF {b lo hi:Nat} {w w':World} {A:Option Addr} {r:Re} (h:Kids (Fr lo hi) w A r) (hg:w.grownBy w' (some b)) (hb:b<lo∨hi≤b) (hh:hi≤w.heap.size):Kids (Fr lo hi) w' A r:=
 z05 (fun a ha=>World.cell?_of_block (hg.block a.block (Nat.lt_of_lt_of_le ha.2 hh) (fun e=>by injection e with e;unfold Fr at ha;omega))) (fun _ hk=>hk) r A h
theorem Kids.setF {lo hi:Nat} {w:World} {A:Option Addr} {r:Re} (h:Kids (Fr lo hi) w A r) {a:Addr} (ha:a.block<lo∨hi≤a.block) (u:Value):Kids (Fr lo hi) (w.setCell a u) A r:=
 z05 (fun c hc=>World.cell?_setCell_other _ _ _ _ (fun e=>by subst e;unfold Fr at hc;omega)) (fun _ hk=>hk) r A h
theorem Kids.leaf (P:Nat→Prop) (w:World) (A:Option Addr) (k:Int) (S:S4) (lo hi n:Int):Kids P w A (.mk k S [] lo hi n):=by rw[Kids];exact .inl rfl
def put9 (W:World) (c:Nat) (v0 v1 v2 v3 v4 v5 v6 v7 v8:Value):World:=
 ((((((((W.setCell ⟨c,0,none⟩ v0).setCell ⟨c,1,none⟩ v1).setCell ⟨c,2,none⟩ v2).setCell ⟨c,3,none⟩ v3).setCell ⟨c,4,none⟩ v4).setCell ⟨c,5,none⟩ v5).setCell ⟨c,6,none⟩ v6).setCell ⟨c,7,none⟩ v7).setCell ⟨c,8,none⟩ v8
structure Box9 (w:World) (c:Nat) (v0 v1 v2 v3 v4 v5 v6 v7 v8:Value):Prop where
 c0:w.cell? ⟨c,0,none⟩=some v0
 c1:w.cell? ⟨c,1,none⟩=some v1
 c2:w.cell? ⟨c,2,none⟩=some v2
 c3:w.cell? ⟨c,3,none⟩=some v3
 c4:w.cell? ⟨c,4,none⟩=some v4
 c5:w.cell? ⟨c,5,none⟩=some v5
 c6:w.cell? ⟨c,6,none⟩=some v6
 c7:w.cell? ⟨c,7,none⟩=some v7
 c8:w.cell? ⟨c,8,none⟩=some v8
 fr:∀ q,q<9→w.frozen? ⟨c,q,none⟩=false
theorem Box9.freed {w:World} {c:Nat} {v0 v1 v2 v3 v4 v5 v6 v7 v8:Value} (h:Box9 w c v0 v1 v2 v3 v4 v5 v6 v7 v8):
  w.frozen? ⟨c,0,none⟩=false∧w.frozen? ⟨c,1,none⟩=false∧w.frozen? ⟨c,2,none⟩=false∧w.frozen? ⟨c,3,none⟩=false∧w.frozen? ⟨c,4,none⟩=false∧w.frozen? ⟨c,5,none⟩=false∧w.frozen? ⟨c,6,none⟩=false∧w.frozen? ⟨c,7,none⟩=false∧w.frozen? ⟨c,8,none⟩=false:=
 ⟨h.fr 0 (by omega),h.fr 1 (by omega),h.fr 2 (by omega),h.fr 3 (by omega),h.fr 4 (by omega),h.fr 5 (by omega),h.fr 6 (by omega),h.fr 7 (by omega),h.fr 8 (by omega)⟩
theorem z2o (w:World) (c j:Nat) (u u':Value) (h:w.cell? ⟨c,j,none⟩=some u):(w.setCell ⟨c,j,none⟩ u').cell? ⟨c,j,none⟩=some u':=World.cell?_setCell_same _ _ _ h
theorem z2l (w:World) (c j i:Nat) (u':Value) (h:j≠i):(w.setCell ⟨c,j,none⟩ u').cell? ⟨c,i,none⟩=w.cell? ⟨c,i,none⟩:=World.cell?_setCell_other _ _ _ _ (fun e=>by injection e with _ e;omega)
theorem Box9.put {w:World} {c:Nat} {u0 u1 u2 u3 u4 u5 u6 u7 u8:Value} (h:Box9 w c u0 u1 u2 u3 u4 u5 u6 u7 u8) (v0 v1 v2 v3 v4 v5 v6 v7 v8:Value):Box9 (put9 w c v0 v1 v2 v3 v4 v5 v6 v7 v8) c v0 v1 v2 v3 v4 v5 v6 v7 v8:=by
 unfold put9;refine⟨?_,?_,?_,?_,?_,?_,?_,?_,?_,fun q hq=>?_⟩
 ·repeat rw[z2l _ _ _ _ _ (by omega)]
  exact z2o _ _ _ _ _ h.c0
 ·repeat rw[z2l _ _ _ _ _ (by omega)]
  exact z2o _ _ _ _ _ (by(repeat rw[z2l _ _ _ _ _ (by omega)]);exact h.c1)
 ·repeat rw[z2l _ _ _ _ _ (by omega)]
  exact z2o _ _ _ _ _ (by(repeat rw[z2l _ _ _ _ _ (by omega)]);exact h.c2)
 ·repeat rw[z2l _ _ _ _ _ (by omega)]
  exact z2o _ _ _ _ _ (by(repeat rw[z2l _ _ _ _ _ (by omega)]);exact h.c3)
 ·repeat rw[z2l _ _ _ _ _ (by omega)]
  exact z2o _ _ _ _ _ (by(repeat rw[z2l _ _ _ _ _ (by omega)]);exact h.c4)
 ·repeat rw[z2l _ _ _ _ _ (by omega)]
  exact z2o _ _ _ _ _ (by(repeat rw[z2l _ _ _ _ _ (by omega)]);exact h.c5)
 ·repeat rw[z2l _ _ _ _ _ (by omega)]
  exact z2o _ _ _ _ _ (by(repeat rw[z2l _ _ _ _ _ (by omega)]);exact h.c6)
 ·repeat rw[z2l _ _ _ _ _ (by omega)]
  exact z2o _ _ _ _ _ (by(repeat rw[z2l _ _ _ _ _ (by omega)]);exact h.c7)
 ·exact z2o _ _ _ _ _ (by(repeat rw[z2l _ _ _ _ _ (by omega)]);exact h.c8)
 ·simp only[World.frozen?_setCell];exact h.fr q hq
theorem Box9.grown {b c:Nat} {w w':World} {v0 v1 v2 v3 v4 v5 v6 v7 v8:Value} (h:Box9 w c v0 v1 v2 v3 v4 v5 v6 v7 v8) (hg:w.grownBy w' (some b)) (hn:c≠b):Box9 w' c v0 v1 v2 v3 v4 v5 v6 v7 v8:=by
 have hc:c<w.heap.size:=World.block_lt_of_cell? w _ h.c0;have e:w'.heap[c]?=w.heap[c]?:=hg.block c hc (fun e=>hn (by injection e));have k:∀ j,w'.cell? ⟨c,j,none⟩=w.cell? ⟨c,j,none⟩:=fun j=>World.cell?_of_block e
 exact⟨(k _).trans h.c0,(k _).trans h.c1,(k _).trans h.c2,(k _).trans h.c3,(k _).trans h.c4,(k _).trans h.c5,(k _).trans h.c6,(k _).trans h.c7,(k _).trans h.c8,fun q hq=>(World.frozen?_of_block e).trans (h.fr q hq)⟩
theorem Box9.other {w:World} {c:Nat} {v0 v1 v2 v3 v4 v5 v6 v7 v8:Value} (h:Box9 w c v0 v1 v2 v3 v4 v5 v6 v7 v8) {a:Addr} (ha:a.block≠c) (u:Value):Box9 (w.setCell a u) c v0 v1 v2 v3 v4 v5 v6 v7 v8:=by
 have k:∀ j,(w.setCell a u).cell? ⟨c,j,none⟩=w.cell? ⟨c,j,none⟩:=fun j=>World.cell?_setCell_other _ _ _ _ (fun e=>ha (by rw[e]))
 exact⟨(k _).trans h.c0,(k _).trans h.c1,(k _).trans h.c2,(k _).trans h.c3,(k _).trans h.c4,(k _).trans h.c5,(k _).trans h.c6,(k _).trans h.c7,(k _).trans h.c8,fun q hq=>(World.frozen?_setCell ..).trans (h.fr q hq)⟩
theorem Box9.new (w:World) (v0 v1 v2 v3 v4 v5 v6 v7 v8:Value):Box9 (w.alloc (.cells #[v0,v1,v2,v3,v4,v5,v6,v7,v8] 27)) w.heap.size v0 v1 v2 v3 v4 v5 v6 v7 v8:=by
 have k:∀ j u,[v0,v1,v2,v3,v4,v5,v6,v7,v8][j]?=some u→(w.alloc (.cells #[v0,v1,v2,v3,v4,v5,v6,v7,v8] 27)).cell? ⟨w.heap.size,j,none⟩=some u:=fun j u h=>by
  have h0:=z0l w 27 #[v0,v1,v2,v3,v4,v5,v6,v7,v8] j u h;have hadd:(⟨w.heap.size,0,none⟩:Addr).add j=⟨w.heap.size,j,none⟩:=by unfold Addr.add;split <;> simp_all
  rw[hadd] at h0;exact h0
 refine⟨k 0 _ rfl,k 1 _ rfl,k 2 _ rfl,k 3 _ rfl,k 4 _ rfl,k 5 _ rfl,k 6 _ rfl,k 7 _ rfl,k 8 _ rfl,fun q hq=>?_⟩;have h:q=0∨q=1∨q=2∨q=3∨q=4∨q=5∨q=6∨q=7∨q=8:=by omega
 rcases h with rfl | rfl | rfl | rfl | rfl | rfl | rfl | rfl | rfl <;> simp[go_sem]
theorem Rdr.put9 {b:Nat} {w:World} {s:ByteArray} {k g o:Nat} (h:Rdr b w s k g o) {c:Nat} (hc:c≠b) (v0 v1 v2 v3 v4 v5 v6 v7 v8:Value):Rdr b (put9 w c v0 v1 v2 v3 v4 v5 v6 v7 v8) s k g o:=
 ((((((((h.other (a:=⟨c,0,none⟩) hc _).other (a:=⟨c,1,none⟩) hc _).other (a:=⟨c,2,none⟩) hc _).other (a:=⟨c,3,none⟩) hc _).other (a:=⟨c,4,none⟩) hc _).other (a:=⟨c,5,none⟩) hc _).other (a:=⟨c,6,none⟩) hc _).other (a:=⟨c,7,none⟩) hc _).other (a:=⟨c,8,none⟩) hc _
theorem z0k (W:World) (c:Nat) (v0 v1 v2 v3 v4 v5 v6 v7 v8:Value):(put9 W c v0 v1 v2 v3 v4 v5 v6 v7 v8).heap.size=W.heap.size:=by simp[put9,World.setCell]
theorem z7g (W:World) (c:Nat) (v0 v1 v2 v3 v4 v5 v6 v7 v8:Value) {k:Nat} (hk:k≠c):(put9 W c v0 v1 v2 v3 v4 v5 v6 v7 v8).heap[k]?=W.heap[k]?:=by
 have e:∀ (W:World) (j:Nat) (u:Value),(W.setCell ⟨c,j,none⟩ u).heap[k]?=W.heap[k]?:=fun W j u=>Below.heap_setCell _ _ _ _ hk
 unfold put9;rw[e,e,e,e,e,e,e,e,e]
theorem z1q {b:Nat} {w W:World} (h:w.grownBy W (some b)) {c:Nat} (hc:w.heap.size≤c) (j:Nat) (u:Value):w.grownBy (W.setCell ⟨c,j,none⟩ u) (some b):=
 ⟨h.os,h.tape,h.output,by simpa[World.setCell] using h.size,fun k hk hn=>(Below.heap_setCell _ _ _ _ (by show k≠c;omega)).trans (h.block k hk hn)⟩
theorem y3m {b:Nat} {w W:World} (h:w.grownBy W (some b)) {c:Nat} (hc:w.heap.size≤c) (v0 v1 v2 v3 v4 v5 v6 v7 v8:Value):w.grownBy (put9 W c v0 v1 v2 v3 v4 v5 v6 v7 v8) (some b):=by
 unfold put9;exact z1q (z1q (z1q (z1q (z1q (z1q (z1q (z1q (z1q h hc _ _) hc _ _) hc _ _) hc _ _) hc _ _) hc _ _) hc _ _) hc _ _) hc _ _
theorem Kids.put9 {lo hi:Nat} {w:World} {A:Option Addr} {r:Re} (h:Kids (Fr lo hi) w A r) {c:Nat} (hc:c<lo∨hi≤c) (v0 v1 v2 v3 v4 v5 v6 v7 v8:Value):Kids (Fr lo hi) (put9 w c v0 v1 v2 v3 v4 v5 v6 v7 v8) A r:=
 z05 (fun a ha=>World.cell?_of_block (z7g _ _ _ _ _ _ _ _ _ _ _ (by unfold Fr at ha;omega))) (fun _ hk=>hk) r A h
theorem endT {b:Nat} {w W:World} {s:ByteArray} {q g o:Nat} {u0 u1 u2 u3 u4 u5 u6 u7 u8:Value} (v0 v1 v2 v3 v4 v5 v6 v7 v8:Value) (hb:b<w.heap.size) (hr:Rdr b W s q g o) (hg:w.grownBy W (some b)) (hx:Box9 W w.heap.size u0 u1 u2 u3 u4 u5 u6 u7 u8):
  ∃ W3,W3=put9 W w.heap.size v0 v1 v2 v3 v4 v5 v6 v7 v8∧Box9 W3 w.heap.size v0 v1 v2 v3 v4 v5 v6 v7 v8∧Rdr b W3 s q g o∧w.grownBy W3 (some b):=
 ⟨_,rfl,hx.put _ _ _ _ _ _ _ _ _,hr.put9 (by omega) _ _ _ _ _ _ _ _ _,y3m hg (Nat.le_refl _) _ _ _ _ _ _ _ _ _⟩
def Sane (s:ByteArray) (rd:Rd):Prop:=∀ k g,k<s.size→g≤k→(∀ q er,rd k g= .bad q er→er=1∨er=8)∧∀ x q g',rd k g= .ok x q g'→k<q∧q≤s.size∧g'≤q
def SaneE (s:ByteArray) (rd:Rd):Prop:=∀ k g,k≤s.size→g≤k→(∀ q er,rd k g= .bad q er→er=1∨er=8)∧∀ x q g',rd k g= .ok x q g'→k≤q∧q≤s.size∧g'≤q
theorem z3o {P:Nat→Prop} {w:World} {c:Nat} {kx:Int} {S:S4} {ks:List Re} {lo hi n:Int} {A:Option Addr} {cp:Nat}
  (hb:Box9 w c (.int .i64 kx) (.int .u64 S.1.toNat) (.int .u64 S.2.1.toNat) (.int .u64 S.2.2.1.toNat) (.int .u64 S.2.2.2.toNat) (.slice A ks.length cp) (.int .i64 lo) (.int .i64 hi) (.int .i64 n)) (hk:Kids P w A (.mk kx S ks lo hi n)) (hp:P c) (k:Int) (S':S4) (lo' hi' n':Int):Kids P w (some ⟨c,0,none⟩) (.mk k S' [.mk kx S ks lo hi n] lo' hi' n'):=by
 rw[Kids];refine .inr ⟨_,rfl,hp,?_⟩;rw[KidsL];refine⟨⟨A,cp,?_,hk⟩,by rw[KidsL];trivial⟩;have e:(⟨c,0,none⟩:Addr).add (0 * 9)=⟨c,0,none⟩:=rfl;rw[e];exact⟨hb.c0,hb.c1,hb.c2,hb.c3,hb.c4,hb.c5,hb.c6,hb.c7,hb.c8⟩
theorem z3m (w:World) (a:Addr) (u:Value):(w.setCell a u).heap.size=w.heap.size:=by simp[World.setCell]
theorem Box9.past {w:World} {c c':Nat} {v0 v1 v2 v3 v4 v5 v6 v7 v8:Value} (h:Box9 w c v0 v1 v2 v3 v4 v5 v6 v7 v8) (hc:c≠c') (u0 u1 u2 u3 u4 u5 u6 u7 u8:Value):Box9 (put9 w c' u0 u1 u2 u3 u4 u5 u6 u7 u8) c v0 v1 v2 v3 v4 v5 v6 v7 v8:=by
 have e:=z7g w c' u0 u1 u2 u3 u4 u5 u6 u7 u8 hc;have k:∀ j,(put9 w c' u0 u1 u2 u3 u4 u5 u6 u7 u8).cell? ⟨c,j,none⟩=w.cell? ⟨c,j,none⟩:=fun j=>World.cell?_of_block e
 have f:∀ j,(put9 w c' u0 u1 u2 u3 u4 u5 u6 u7 u8).frozen? ⟨c,j,none⟩=w.frozen? ⟨c,j,none⟩:=fun j=>World.frozen?_of_block e
 exact⟨(k _).trans h.c0,(k _).trans h.c1,(k _).trans h.c2,(k _).trans h.c3,(k _).trans h.c4,(k _).trans h.c5,(k _).trans h.c6,(k _).trans h.c7,(k _).trans h.c8,fun q hq=>(f q).trans (h.fr q hq)⟩
section
section
variable {b v:Nat} {w W:World} {kx:Int} {S:S4} {ks:List Re} {lo hi n:Int} {A:Option Addr} {c:Nat} {l h:Int}
end
end
section
abbrev Rv:=Re × Option Addr × Nat
def cellsT:Re→Option Addr→Nat→List Value
 | .mk k S ks lo hi n,A,c=>[.int .i64 k,.int .u64 S.1.toNat,.int .u64 S.2.1.toNat,.int .u64 S.2.2.1.toNat,.int .u64 S.2.2.2.toNat,.slice A ks.length c,.int .i64 lo,.int .i64 hi,.int .i64 n]
theorem z4r (r:Re) (A:Option Addr) (c:Nat):(cellsT r A c).length=9:=by cases r;rfl
theorem z5f (r:Re) (A:Option Addr) (c:Nat):∀ u∈cellsT r A c,u.oneCell'=true:=by
 obtain⟨k,S,ks,lo,hi,n⟩:=r;intro u hu;simp only[cellsT,List.mem_cons,List.not_mem_nil,or_false] at hu
 rcases hu with rfl | rfl | rfl | rfl | rfl | rfl | rfl | rfl | rfl <;> rfl
def cellsR (l:List Rv):List Value:=l.flatMap fun x=>cellsT x.1 x.2.1 x.2.2
theorem y07 (l:List Rv) (x:Rv):cellsR (l++[x])=cellsR l++cellsT x.1 x.2.1 x.2.2:=by simp[cellsR]
theorem y0j:∀ (l:List Rv) (i:Nat) (x:Rv),l[i]?=some x→∀ j u,(cellsT x.1 x.2.1 x.2.2)[j]?=some u→(cellsR l)[i * 9+j]?=some u
 | [],i,x,h,j,u,_=>by simp at h
 | y::l,0,x,h,j,u,hu=>by
   injection h with h;subst h
   have hj:=(List.getElem?_eq_some_iff.1 hu).1;unfold cellsR;rw[List.flatMap_cons,Nat.zero_mul,Nat.zero_add,List.getElem?_append_left hj];exact hu
 | y::l,i+1,x,h,j,u,hu=>by
   have ih:=y0j l i x (by simpa using h) j u hu;unfold cellsR at ih ⊢;rw[List.flatMap_cons,List.getElem?_append_right (by rw[z4r];omega),z4r,show (i+1) * 9+j - 9=i * 9+j by omega];exact ih
def Own (base:Nat) (W:World) (v:Value):Nat→Prop:=fun k=>base≤k∧k<W.heap.size∧v.ownBlock≠some k
structure Trees (b:Nat) (w W:World) (v:Value) (l:List Rv):Prop where
 hb:b<w.heap.size
 base:w.heap.size+1≤W.heap.size
 grown:w.grownBy W (some b)
 res:Box9 W w.heap.size (.int .i64 0) (.int .u64 0) (.int .u64 0) (.int .u64 0) (.int .u64 0) (.slice none 0 0) (.int .i64 0) (.int .i64 0) (.int .i64 0)
 row:W.ownsRow (w.heap.size+1) 27 9 v l.length (cellsR l)
 kids:∀ x∈l,Kids (Own (w.heap.size+1) W v) W x.2.1 x.1
section
variable {b:Nat} {w W:World} {v:Value} {l:List Rv}
theorem Trees.start (hb:b<w.heap.size):Trees b w (w.alloc (.cells #[.int .i64 0,.int .u64 0,.int .u64 0,.int .u64 0,.int .u64 0,.slice none 0 0,.int .i64 0,.int .i64 0,.int .i64 0] 27)) (.slice none 0 0) []:=
 ⟨hb,by simp,z0f (z0b w _),Box9.new w _ _ _ _ _ _ _ _ _,World.ownsRow_nil _ _ _ _,fun x hx=>by simp at hx⟩
theorem Trees.next (t:Trees b w W v l) {W':World} (hg:W.grownBy W' (some b)):Trees b w W' v l:=by
 have h1:=t.hb;refine⟨t.hb,Nat.le_trans t.base hg.size,z0a t.grown hg,t.res.grown hg (by omega),t.row.kept hg ?_,fun x hx=>?_⟩
 ·cases ho:v.ownBlock with
  | none=>exact .inl rfl
  | some g=>right;have:=(t.row.lt g ho).1;intro e;injection e with e;omega
 ·refine z05 (fun a ha=>World.cell?_of_block (hg.block a.block ha.2.1 (fun e=>?_))) (fun k hk=>⟨hk.1,Nat.lt_of_lt_of_le hk.2.1 hg.size,hk.2.2⟩) _ _ (t.kids x hx)
  injection e with e
  have:=ha.1;omega
theorem Trees.fresh (t:Trees b w W v l) {W':World} {hi:Nat} {A:Option Addr} {r:Re} (hk:Kids (Fr W.heap.size hi) W' A r) (hh:hi≤W'.heap.size):Kids (Own (w.heap.size+1) W' v) W' A r:=
 z05 (fun _ _=>rfl) (fun k hk=>⟨Nat.le_trans t.base hk.1,Nat.lt_of_lt_of_le hk.2 hh,fun e=>by have:=(t.row.lt k e).2;have:=hk.1;omega⟩) r A hk
theorem Trees.push (t:Trees b w W v l) {W':World} {x:Rv} {g cap:Nat} (hx:Kids (Own (w.heap.size+1) W v) W x.2.1 x.1)
  (hown:W'.ownsRow (w.heap.size+1) 27 9 (.slice (some ⟨g,0,none⟩) (l.length+1) cap) (l.length+1) (cellsR l++cellsT x.1 x.2.1 x.2.2)) (hgrow:W.grownBy W' v.ownBlock) (hat:v.ownBlock=some g∨g=W.heap.size) (hgb:w.grownBy W' (some b)):
  Trees b w W' (.slice (some ⟨g,0,none⟩) (l.length+1) cap) (l++[x]):=by
 have h1:=t.hb;have own:(Value.slice (some ⟨g,0,none⟩) (l.length+1) cap).ownBlock=some g:=rfl;have hsame:SameOn (Own (w.heap.size+1) W v) W W':=fun a ha=>World.cell?_of_block (hgrow.block a.block ha.2.1 (fun e=>ha.2.2 e.symm))
 have hpq:∀ k,Own (w.heap.size+1) W v k→Own (w.heap.size+1) W' (.slice (some ⟨g,0,none⟩) (l.length+1) cap) k:=fun k hk=>by
  refine⟨hk.1,Nat.lt_of_lt_of_le hk.2.1 hgrow.size,fun e=>?_⟩;rw[own] at e;injection e with e
  rcases hat with h | h
  ·exact hk.2.2 (by rw[h,e])
  ·have:=hk.2.1;omega
 refine⟨t.hb,Nat.le_trans t.base hgrow.size,hgb,?_,by rw[List.length_append,y07];exact hown,fun y hy=>?_⟩
 ·have e:W'.heap[w.heap.size]?=W.heap[w.heap.size]?:=hgrow.block _ (by have:=t.base;omega) (fun e=>by have:=(t.row.lt _ e.symm).1;omega)
  have k:∀ j,W'.cell? ⟨w.heap.size,j,none⟩=W.cell? ⟨w.heap.size,j,none⟩:=fun j=>World.cell?_of_block e
  have f:∀ j,W'.frozen? ⟨w.heap.size,j,none⟩=W.frozen? ⟨w.heap.size,j,none⟩:=fun j=>World.frozen?_of_block e
  have h:=t.res;exact⟨(k _).trans h.c0,(k _).trans h.c1,(k _).trans h.c2,(k _).trans h.c3,(k _).trans h.c4,(k _).trans h.c5,(k _).trans h.c6,(k _).trans h.c7,(k _).trans h.c8,fun q hq=>(f q).trans (h.fr q hq)⟩
 ·rcases List.mem_append.1 hy with hy | hy
  ·exact z05 hsame hpq _ _ (t.kids y hy)
  ·rw[List.mem_singleton.1 hy];exact z05 hsame hpq _ _ hx
theorem Trees.grow (t:Trees b w W v l) {W':World} (hgrow:W.grownBy W' v.ownBlock):w.grownBy W' (some b):=
 ⟨hgrow.os.trans t.grown.os,hgrow.tape.trans t.grown.tape,hgrow.output.trans t.grown.output,Nat.le_trans t.grown.size hgrow.size,fun k hk hn=>
  (hgrow.block k (Nat.lt_of_lt_of_le hk t.grown.size) (fun e=>by have:=(t.row.lt k e.symm).1;omega)).trans (t.grown.block k hk hn)⟩
theorem Trees.at_ {ad:Addr} {n c:Nat} (t:Trees b w W (.slice (some ad) n c) l) {i:Nat} {x:Rv} (hi:l[i]?=some x):At9 W (ad.add (i * 9)) x.1 x.2.1 x.2.2:=by
 have hne:0<l.length:=by have:=(List.getElem?_eq_some_iff.1 hi).1;omega
 have hc:=y0j l i x hi
 rcases t.row.2 with ⟨_,h0⟩ | ⟨g,cap,cur,hv,hb,hg,_⟩
 ·omega
 ·injection hv with hA _ _
  injection hA with hA
  subst hA;have cell:=t.row.cells (g:=g) rfl;obtain⟨⟨k,S,ks,lo,h',n⟩,A,c'⟩:=x;have at_:∀ j u,(cellsT (.mk k S ks lo h' n) A c')[j]?=some u→W.cell? ((⟨g,0,none⟩:Addr).add (i * 9+j))=some u:=fun j u hu=>cell _ _ (hc j u hu)
  have a0:∀ j u,0<j→(cellsT (.mk k S ks lo h' n) A c')[j]?=some u→W.cell? ⟨((⟨g,0,none⟩:Addr).add (i * 9)).block,((⟨g,0,none⟩:Addr).add (i * 9)).off+j,none⟩=some u:=fun j u hj hu=>by rw[z23 _ _ _ hj];exact at_ j u hu
  exact⟨at_ 0 _ rfl,a0 1 _ (by omega) rfl,a0 2 _ (by omega) rfl,a0 3 _ (by omega) rfl,a0 4 _ (by omega) rfl,a0 5 _ (by omega) rfl,a0 6 _ (by omega) rfl,a0 7 _ (by omega) rfl,a0 8 _ (by omega) rfl⟩
theorem z9i {P:Nat→Prop} {W:World} {ad:Addr}:∀ (l:List Rv) (i:Nat),(∀ j x,l[j]?=some x→At9 W (ad.add ((i+j) * 9)) x.1 x.2.1 x.2.2∧Kids P W x.2.1 x.1)→KidsL P W ad i (l.map (·.1))
 | [],_,_=>by rw[List.map_nil,KidsL];trivial
 | x::l,i,h=>by
   rw[List.map_cons,KidsL];refine⟨⟨x.2.1,x.2.2,(h 0 x rfl)⟩,z9i l (i+1) fun j y hy=>?_⟩;have:=h (j+1) y (by simpa using hy);rw[show i+(j+1)=i+1+j by omega] at this;exact this
end
theorem z2z {W:World} {g:Nat} {k:Int} {S:S4} {ks:List Re} {lo hi n:Int} {A:Option Addr} {c:Nat} (h:At9 W (⟨g,0,none⟩:Addr) (.mk k S ks lo hi n) A c):
 W.cell? ⟨g,0,none⟩=some (.int .i64 k)∧W.cell? ⟨g,1,none⟩=some (.int .u64 S.1.toNat)∧W.cell? ⟨g,2,none⟩=some (.int .u64 S.2.1.toNat)∧W.cell? ⟨g,3,none⟩=some (.int .u64 S.2.2.1.toNat)∧W.cell? ⟨g,4,none⟩=some (.int .u64 S.2.2.2.toNat)∧W.cell? ⟨g,5,none⟩=some (.slice A ks.length c)∧W.cell? ⟨g,6,none⟩=some (.int .i64 lo)∧W.cell? ⟨g,7,none⟩=some (.int .i64 hi)∧W.cell? ⟨g,8,none⟩=some (.int .i64 n):=h
end
theorem x0q:(Tryd.prog.info? 27).map (fun i=>(i.zero,i.size,i.bytes))=some (some (.agg #[.int .i64 0,.int .u64 0,.int .u64 0,.int .u64 0,.int .u64 0,.slice none 0 0,.int .i64 0,.int .i64 0,.int .i64 0]),9,88):=by kernel_rfl
theorem Rdr.of_block {b:Nat} {w w':World} {s:ByteArray} {k g o:Nat} (h:Rdr b w s k g o) (e:w'.heap[b]?=w.heap[b]?):Rdr b w' s k g o:=by
 have c:∀ j,w'.cell? ⟨b,j,none⟩=w.cell? ⟨b,j,none⟩:=fun j=>World.cell?_of_block e
 have f:∀ j,w'.frozen? ⟨b,j,none⟩=w.frozen? ⟨b,j,none⟩:=fun j=>World.frozen?_of_block e
 exact⟨(c _).trans h.c0,(c _).trans h.c1,(c _).trans h.c2,(c _).trans h.c3,(f _).trans h.f1,(f _).trans h.f2,(f _).trans h.f3⟩
theorem Trees.rdr {b:Nat} {w W W':World} {v:Value} {l:List Rv} {s:ByteArray} {k g o:Nat} (t:Trees b w W v l) (hgrow:W.grownBy W' v.ownBlock) (h:Rdr b W s k g o):Rdr b W' s k g o:=
 h.of_block (hgrow.block b h.lt (fun e=>by have:=(t.row.lt b e.symm).1;have:=t.hb;omega))
theorem Trees.whole1 {b:Nat} {w W:World} {l:List Rv} {A:Option Addr} {n c:Nat} (t:Trees b w W (.slice A n c) l) (k:Int) (S:S4) (lo hi m:Int):Kids (Fr (w.heap.size+1) W.heap.size) W A (.mk k S (l.map (·.1)) lo hi m):=by
 rw[Kids]
 cases hl:l with
 | nil=>exact .inl rfl
 | cons x r=>
   right
   rcases t.row.2 with ⟨_,h0⟩ | ⟨g,cap,cur,hv,hb,hg,_⟩
   ·rw[hl] at h0;simp at h0
   ·injection hv with hA h2 h3
    subst hA h2 h3;have hlt:=(t.row.lt g rfl);rw[←hl];refine⟨_,rfl,hlt,z9i l 0 fun j x hx=>?_⟩;rw[Nat.zero_add];exact⟨t.at_ hx,z05 (fun _ _=>rfl) (fun k hk=>⟨hk.1,hk.2.1⟩) _ _ (t.kids x (List.mem_of_getElem? hx))⟩
def nextA (rw_:Rd) (s:Bs) (k g:Nat) (acc:List Re):Ro (List Re):=if acc=[] then altL rw_ s k g [] else if s[k]?=some 124 then altL rw_ s (k+1) g acc else .ok acc k g
theorem y2g {rw_:Rd} {s:Bs} {k g q g':Nat} {x:Re} {acc:List Re} (h:rw_ k g= .ok x q g') (hq:k≤q):nextA rw_ s q g' (acc++[x])=altL rw_ s k g acc:=by
 unfold nextA;rw[if_neg (by simp)];by_cases hc:s[q]?=some 124
 ·rw[if_pos hc,z4m h hc hq]
 ·rw[if_neg hc,z3e h hc]
def Gr (s:Bs) (rd:Rd):Prop:=∀ k g x q g',k<s.length→g≤k→rd k g= .ok x q g'→g'≤q
def GrE (s:Bs) (rd:Rd):Prop:=∀ k g x q g',k≤s.length→g≤k→rd k g= .ok x q g'→g'≤q
theorem y2m {s:Bs} {grp:Rd} (hg:Good s grp) (h:Gr s grp):Gr s (atomR grp s):=by
 intro k g x q g' hk hgk he;have hq:=(z13 hg k g hk).2 x q g' he;unfold atomR at he
 split at he
 ·injection he with _ _ he;omega
 ·split at he
  ·injection he with _ _ he;omega
  ·split at he
   ·injection he with _ _ he;omega
   ·split at he
    ·exact h k g x q g' hk hgk he
    ·split at he
     ·split at he
      ·cases he
      ·injection he with _ _ he;omega
     ·split at he
      ·cases he
      ·injection he with _ _ he;omega
theorem y95 {s:Bs} {x y:Re} {q g p g':Nat} (_:q≤s.length) (hg:g≤q) (h:tailP s x q g= .ok y p g'):g'≤p:=by
 unfold tailP at h
 split at h
 ·injection h with _ h1 h2;omega
 ·split at h
  ·injection h with _ h1 h2;omega
  ·split at h
   ·injection h with _ h1 h2;omega
   ·split at h
    ·rename_i hc
     have:=z0r hc;have hb:=z8n (s:=s) (k:=q+1) (by omega)
     split at h
     ·cases h
     ·rename_i b p' hbd
      rw[hbd] at hb;injection h with _ h1 h2
      dsimp only at hb;omega
    ·injection h with _ h1 h2;omega
theorem y5c {s:Bs} {pc:Rd} (hp:Good s pc) (h:Gr s pc):∀ (n k g:Nat) (acc:List Re),s.length - k<n→k≤s.length→g≤k→∀ x q g',rowL pc s k g acc= .ok x q g'→g'≤q
 | 0,k,g,acc,hn,hk,hgk,x,q,g',he=>by omega
 | n+1,k,g,acc,hn,hk,hgk,x,q,g',he=>by
   cases hs:stops s k with
   | true=>rw[z2m hs] at he;injection he with _ e1 e2;omega
   | false=>
     have hlt:=z4u hs
     rcases ha:pc k g with ⟨q1,e⟩ | ⟨y,q1,g1⟩
     ·rw[z2b hs ha] at he;cases he
     ·have h2:=(hp k g hlt).2 y q1 g1 ha
      rw[z27 hs ha h2] at he;exact y5c hp h n q1 g1 _ (by omega) h2.2 (h k g y q1 g1 hlt hgk ha) x q g' he
theorem z8h {s:Bs} {pc:Rd} (hp:Good s pc) (h:Gr s pc):GrE s (rowOf pc s):=by
 intro k g x q g' hk hgk he;unfold rowOf at he
 rcases ha:rowL pc s k g [] with ⟨q1,e⟩ | ⟨y,q1,g1⟩
 ·rw[ha] at he;cases he
 ·rw[ha] at he
  injection he with _ e1 e2
  have:=y5c hp h (s.length - k+1) k g [] (by omega) hk hgk y q1 g1 ha;omega
theorem y66 {s:Bs} {rw_:Rd} (hp:GoodE s rw_) (h:GrE s rw_):∀ (n k g:Nat) (acc:List Re),s.length - k<n→k≤s.length→g≤k→∀ x q g',altL rw_ s k g acc= .ok x q g'→g'≤q
 | 0,k,g,acc,hn,hk,hgk,x,q,g',he=>by omega
 | n+1,k,g,acc,hn,hk,hgk,x,q,g',he=>by
   rcases ha:rw_ k g with ⟨q1,e⟩ | ⟨y,q1,g1⟩
   ·rw[z3f ha] at he;cases he
   ·have h2:=(hp k g hk).2 y q1 g1 ha
    have h3:=h k g y q1 g1 hk hgk ha;by_cases hc:s[q1]?=some 124
    ·have:=z0r hc
     rw[z4m ha hc h2.1] at he;exact y66 hp h n (q1+1) g1 _ (by omega) (by omega) (by omega) x q g' he
    ·rw[z3e ha hc] at he
     injection he with _ e1 e2
     omega
theorem y1s {s:Bs} {rw_:Rd} (hp:GoodE s rw_) (h:GrE s rw_):GrE s (altOf rw_ s):=by
 intro k g x q g' hk hgk he;unfold altOf at he
 rcases ha:altL rw_ s k g [] with ⟨q1,e⟩ | ⟨y,q1,g1⟩
 ·rw[ha] at he;cases he
 ·rw[ha] at he
  injection he with _ e1 e2
  have:=y66 hp h (s.length - k+1) k g [] (by omega) hk hgk y q1 g1 ha;omega
theorem y4n {s:ByteArray} {rd:Rd} (hg:Good s.data.toList rd) (h:Gr s.data.toList rd):Sane s rd:=by
 intro k g hk hgk;obtain⟨h1,h2⟩:=hg k g hk;refine⟨fun q er he=>?_,fun x q g' he=>⟨(h2 x q g' he).1,(h2 x q g' he).2,h k g x q g' hk hgk he⟩⟩
 rcases(h1 q er he).2.2 with e | e
 ·exact .inl e
 ·exact .inr e.1
theorem y20 {s:ByteArray} {rd:Rd} (hg:GoodE s.data.toList rd) (h:GrE s.data.toList rd):SaneE s rd:=by
 intro k g hk hgk;obtain⟨h1,h2⟩:=hg k g hk;refine⟨fun q er he=>?_,fun x q g' he=>⟨(h2 x q g' he).1,(h2 x q g' he).2,h k g x q g' hk hgk he⟩⟩
 rcases(h1 q er he).2.2 with e | e
 ·exact .inl e
 ·exact .inr e.1
def PostX (w:World) (R:Option Re × Nat × Int) (e:Ending) (w':World):Prop:=Below w.heap.size w w'∧match R with
 | (none,q,er)=>e= .returned (.tuple #[.agg #[.int .i64 0,.int .u64 0,.int .u64 0,.int .u64 0,.int .u64 0,.slice none 0 0,.int .i64 0,.int .i64 0,.int .i64 0],.int .i64 q,.int .i64 er])
 | (some x,_,_)=>∃ A c,e= .returned (.tuple #[valR x A c,.int .i64 0,.int .i64 0])∧Kids (Fr w.heap.size w'.heap.size) w' A x
theorem z6i {w w':World} {R:Option Re × Nat × Int} {q:Nat} {er:Int} {v:Value} (h:R=(none,q,er)) (hv:v= .tuple #[.agg #[.int .i64 0,.int .u64 0,.int .u64 0,.int .u64 0,.int .u64 0,.slice none 0 0,.int .i64 0,.int .i64 0,.int .i64 0],.int .i64 q,.int .i64 er]) (hb:Below w.heap.size w w'):PostX w R (.returned v) w':=by subst h hv;exact⟨hb,rfl⟩
theorem y93 {w w':World} {R:Option Re × Nat × Int} {x:Re} {v:Value} (h:R=(some x,0,0)) (A:Option Addr) (c:Nat) (hv:v= .tuple #[valR x A c,.int .i64 0,.int .i64 0]) (hk:Kids (Fr w.heap.size w'.heap.size) w' A x) (hb:Below w.heap.size w w'):PostX w R (.returned v) w':=by subst h hv;exact⟨hb,A,c,rfl,hk⟩
theorem Box9.drew {w:World} {c:Nat} {v0 v1 v2 v3 v4 v5 v6 v7 v8:Value} (h:Box9 w c v0 v1 v2 v3 v4 v5 v6 v7 v8):Box9 w.drew c v0 v1 v2 v3 v4 v5 v6 v7 v8:=⟨h.c0,h.c1,h.c2,h.c3,h.c4,h.c5,h.c6,h.c7,h.c8,h.fr⟩
theorem z18 {b:Nat} {w w1 w':World} (h1:Below w.heap.size w w1) (hg:w1.grownBy w' (some b)) (hb:w.heap.size≤b):Below w.heap.size w w':=z3q h1 hg h1.size hb
theorem z6s {B:Nat} {w W:World} (h:Below B w W) {c:Nat} (hc:B≤c) (v0 v1 v2 v3 v4 v5 v6 v7 v8:Value):Below B w (put9 W c v0 v1 v2 v3 v4 v5 v6 v7 v8):=by
 unfold put9;exact(((((((((h.setCell hc _).setCell hc _).setCell hc _).setCell hc _).setCell hc _).setCell hc _).setCell hc _).setCell hc _).setCell hc _)
end Go.Proofs.YtejgbpbljdhndaaDoor
