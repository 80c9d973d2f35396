import Derived.Test.YtdobinjbejagcaaGreatDoorGlE
namespace Go.Proofs.YtdobinjbejagcaaGreatDoor
open Go Go.RowKit
set_option maxRecDepth 100000
set_option maxHeartbeats 4000000
theorem ritem_at (s:ByteArray) (i:Int) (k:Nat) (hi:i=k) (hk:k≤s.size) (hs:s.size≤1000000) {R:Res UInt8} (hR:rb sgI s.data.toList k=R) (w:World):
  Calls Tryz.prog 114 #[.string s,.int .i64 i] w fun e w'=>e= .returned (resR k R)∧w=w':=by
 subst hi hR;exact ritem_any s k hk hs w
theorem item_of {s:Bs} {k q:Nat} {lo:UInt8} (h:rb sgI s k= .ok lo q):(s[q]?=some 45→item s k=match rb sgI s (q+1) with
  | .bad q2=> .bad q2
  | .ok hi q2=>if (hi.toNat:Int)<(lo.toNat:Int) then .bad (q2 - 1) else .ok (lo,hi) q2)∧(s[q]?≠some 45→item s k= .ok (lo,lo) q):=by
 constructor
 ·intro h45;unfold item;rw[h];dsimp only;rw[if_pos h45];cases rb sgI s (q+1) <;> rfl
 ·intro h45;unfold item;rw[h];dsimp only;rw[if_neg h45]
def nxtS (R:Res (List Sp)):Int:=match R with | .bad _=> -1 | .ok _ q=>q
def badS (R:Res (List Sp)):Int:=match R with | .bad q=>q | .ok _ _=>0
theorem ret_bad {v:Value} {i:Int} {q:Nat} (h:i=q):Ending.returned (.tuple #[v,.int .i64 (-1),.int .i64 i])= .returned (.tuple #[v,.int .i64 (nxtS (.bad q)),.int .i64 (badS (.bad q))]):=by subst h;rfl
def PostRGl (w0:World) (R:Res (List Sp)) (e:Ending) (w':World):Prop:=
 ∃ v,e= .returned (.tuple #[v,.int .i64 (nxtS R),.int .i64 (badS R)])∧RowSGl w0.heap.size w0 w' v (lstS R)
theorem rspans_any (s:ByteArray) (k0:Nat) (hk0:k0≤s.size) (hs:s.size≤1000000) (w:World):
  Calls Tryz.prog 80 #[.string s,.int .i64 k0] w (PostRGl w (goS s.data.toList k0 [])):=by
 obtain⟨R,hR⟩:∃ R,R=goS s.data.toList k0 []:=⟨_,rfl⟩;rw[←hR];have HR:=Lib.hid hR.symm;obtain⟨i0,hi0,hz0,hz1,hz2⟩:=info_parts info48;clear hR;go_enter Tryz.func80,Tryz.ntmps80;go_wp2
 go_loopw [1,7] (fun a v wr=>LoopS s w R a v wr) (fun a _ _=>s.size - (intOf a).toNat)
 case atStart=>exact⟨k0,[],hk0,rfl,HR.out,Row1.nil 149 2 w,by simp⟩
 case round=>
  obtain⟨k,acc,hk,rfl,hg,hT,hacc⟩:=hrel;have HG:=Lib.hid hg;have HT:=Lib.hid hT;clear hg hT
  rcases row_form HT.out.row with ⟨rfl,h0⟩ | ⟨g,cap,rfl,hcap⟩
  ·have hno:Hid (¬ (acc≠[]∧s.data.toList[k]?=some 93)):=Lib.hid (by rintro⟨h,_⟩;exact h (List.eq_nil_of_length_eq_zero h0))
   clear h0
   rcases h1:rb sgI s.data.toList k with q | ⟨lo,q⟩
   ·have HX:Hid (R= .bad q):=Lib.hid (by rw[←HG.out,goS_bad hno.out (by unfold item;rw[h1])])
    have KA:Hid (∀ w,Calls Tryz.prog 114 #[.string s,.int .i64 (k:Int)] w fun e w'=>e= .returned (.tuple #[.int .u8 0,.int .i64 (-1),.int .i64 q])∧w=w'):=Lib.hid fun w=>ritem_at s (k:Int) k rfl (by omega) hs h1 w
    clear h1;go_wp2_with (go_at_call 114;((with_reducible refine(KA.out _).mono ?_));rintro e w1 ⟨rfl,rfl⟩)
    go_ret3
    rw[HX.out];exact⟨_,rfl,⟨World.ownsRow_nil _ _ _ _,HT.out.below,HT.out.size⟩⟩
   ·obtain⟨q1,q2⟩:=rb_ok (by rw[len_dataGl];exact hk) h1
    rw[len_dataGl] at q2;obtain⟨n,rfl⟩:∃ n:Nat,q=k+n:=⟨q - k,by omega⟩;obtain⟨x,hx⟩:∃ x:Int,x=(lo.toNat:Int):=⟨_,rfl⟩;have HLO:=Lib.hid hx
    have KA:Hid (∀ w,Calls Tryz.prog 114 #[.string s,.int .i64 (k:Int)] w fun e w'=>e= .returned (.tuple #[.int .u8 x,.int .i64 n,.int .i64 0])∧w=w'):=Lib.hid fun w=>by
     have:=ritem_at s (k:Int) k rfl (by omega) hs h1 w;rw[resR_ok (n:=(n:Int)) (by omega),←hx] at this;exact this
    have hn2:n≤1000000:=by omega
    have hn0:0<n:=by omega
    have it:=item_of h1;clear h1 hx;by_cases a:k+n<s.size
    ·by_cases c45:s[k+n]=45
     ·have b45:((s[k+n].toNat:Int)==45)=true:=byte_eqGl (n:=45) c45 (by omega)
      have it2:=it.1 (by rw[get_at s (k+n) a,c45]);clear c45 it
      rcases h2:rb sgI s.data.toList (k+n+1) with r | ⟨hi,r⟩
      ·have HX:Hid (R= .bad r):=Lib.hid (by rw[←HG.out,goS_bad hno.out (by rw[it2,h2])])
       have KB:Hid (∀ w,Calls Tryz.prog 114 #[.string s,.int .i64 ((k:Int)+(n:Int)+1)] w fun e w'=>e= .returned (.tuple #[.int .u8 0,.int .i64 (-1),.int .i64 r])∧w=w'):=Lib.hid fun w=>ritem_at s ((k:Int)+(n:Int)+1) (k+n+1) (by omega) (by omega) hs h2 w
       clear h2 it2;go_wp2_with (first | (go_at_call 114;((with_reducible refine(KA.out _).mono ?_));rintro e w1 ⟨rfl,rfl⟩) | (go_at_call 114;((with_reducible refine(KB.out _).mono ?_));rintro e w1 ⟨rfl,rfl⟩))
       go_ret3
       rw[HX.out];exact⟨_,rfl,⟨World.ownsRow_nil _ _ _ _,HT.out.below,HT.out.size⟩⟩
      ·obtain⟨r1,r2⟩:=rb_ok (by rw[len_dataGl];omega) h2
       rw[len_dataGl] at r2;obtain⟨d,rfl⟩:∃ d:Nat,r=k+n+1+d:=⟨r - (k+n+1),by omega⟩;obtain⟨y,hy⟩:∃ y:Int,y=(hi.toNat:Int):=⟨_,rfl⟩;have HHI:=Lib.hid hy
       have KB:Hid (∀ w,Calls Tryz.prog 114 #[.string s,.int .i64 ((k:Int)+(n:Int)+1)] w fun e w'=>e= .returned (.tuple #[.int .u8 y,.int .i64 d,.int .i64 0])∧w=w'):=Lib.hid fun w=>by
        have:=ritem_at s ((k:Int)+(n:Int)+1) (k+n+1) (by omega) (by omega) hs h2 w;rw[resR_ok (n:=(d:Int)) (by omega),←hy] at this;exact this
       rw[h2] at it2;dsimp only at it2;rw[←HLO.out,←hy] at it2;have hd2:d≤1000000:=by omega
       by_cases hlt:y<x
       ·rw[if_pos hlt] at it2
        have HX:Hid (R= .bad (k+n+1+d - 1)):=Lib.hid (by rw[←HG.out,goS_bad hno.out it2]);clear h2 hy it2;go_wp2_with (first | (go_at_call 114;((with_reducible refine(KA.out _).mono ?_));rintro e w1 ⟨rfl,rfl⟩) | (go_at_call 114;((with_reducible refine(KB.out _).mono ?_));rintro e w1 ⟨rfl,rfl⟩))
        go_ret3
        rw[HX.out];exact⟨_,ret_bad (v:= .slice none 0 0) (i:=(k:Int)+(n:Int)+(d:Int)) (q:=k+n+1+d - 1) (by omega),⟨World.ownsRow_nil _ _ _ _,HT.out.below,HT.out.size⟩⟩
       ·rw[if_neg hlt] at it2
        have HX:Hid (goS s.data.toList (k+n+1+d) (acc++[(lo,hi)])=R):=Lib.hid (by rw[←HG.out,goS_ok hno.out (by rw[len_dataGl];exact hk) it2]);clear h2 hy it2;go_wp2_with (first | (go_at_call 114;((with_reducible refine(KA.out _).mono ?_));rintro e w1 ⟨rfl,rfl⟩) | (go_at_call 114;((with_reducible refine(KB.out _).mono ?_));rintro e w1 ⟨rfl,rfl⟩) | (at_builtin;refine wpList_append_own _ rfl (.tmp 75) (.tmp 79) 123 rfl w.heap.size 149 i0 (.agg #[.int .u8 0,.int .u8 0]) 2 2 Tryz.underlying123 hi0 hz0 hz1 hz2 rfl (by decide) _ _ _ rfl (HT.out.alloc _).row ⟨wr.heap.size,0,none⟩ 1 1 [.int .u8 x,.int .u8 y] rfl rfl (fun j u hu=>new_cellsGl wr 149 #[.int .u8 x,.int .u8 y] j u hu) (two_oneGl _ _) (by unfold maxLen;omega) (by omega) (HT.out.alloc _).size ?_;intro v2 w3 hown' hgrow _))
        go_roundw
        case rel=>exact⟨k+n+1+d,acc++[(lo,hi)],r2,by go_num,HX.out,(HT.out.alloc _).span (p:=(lo,hi)) (by rw[HLO.out,HHI.out] at hown';exact hown') hgrow,by rw[List.length_append];simp;omega⟩
        case measure=>simp[intOf];omega
     ·have b45:((s[k+n].toNat:Int)==45)=false:=byte_neGl (n:=45) c45 (by omega)
      have it2:=it.2 (by rw[get_at s (k+n) a];simpa using c45);have HX:Hid (goS s.data.toList (k+n) (acc++[(lo,lo)])=R):=Lib.hid (by rw[←HG.out,goS_ok hno.out (by rw[len_dataGl];exact hk) it2]);clear c45 it it2;go_wp2_with (first | (go_at_call 114;((with_reducible refine(KA.out _).mono ?_));rintro e w1 ⟨rfl,rfl⟩) | (at_builtin;refine wpList_append_own _ rfl (.tmp 75) (.tmp 79) 123 rfl w.heap.size 149 i0 (.agg #[.int .u8 0,.int .u8 0]) 2 2 Tryz.underlying123 hi0 hz0 hz1 hz2 rfl (by decide) _ _ _ rfl (HT.out.alloc _).row ⟨wr.heap.size,0,none⟩ 1 1 [.int .u8 x,.int .u8 x] rfl rfl (fun j u hu=>new_cellsGl wr 149 #[.int .u8 x,.int .u8 x] j u hu) (two_oneGl _ _) (by unfold maxLen;omega) (by omega) (HT.out.alloc _).size ?_;intro v2 w3 hown' hgrow _))
      go_roundw
      case rel=>exact⟨k+n,acc++[(lo,lo)],q2,by go_num,HX.out,(HT.out.alloc _).span (p:=(lo,lo)) (by rw[HLO.out] at hown';exact hown') hgrow,by rw[List.length_append];simp;omega⟩
      case measure=>simp[intOf];omega
    ·have it2:=it.2 (by rw[get_end s (k+n) a];simp)
     have HX:Hid (goS s.data.toList (k+n) (acc++[(lo,lo)])=R):=Lib.hid (by rw[←HG.out,goS_ok hno.out (by rw[len_dataGl];exact hk) it2]);clear it it2;go_wp2_with (first | (go_at_call 114;((with_reducible refine(KA.out _).mono ?_));rintro e w1 ⟨rfl,rfl⟩) | (at_builtin;refine wpList_append_own _ rfl (.tmp 75) (.tmp 79) 123 rfl w.heap.size 149 i0 (.agg #[.int .u8 0,.int .u8 0]) 2 2 Tryz.underlying123 hi0 hz0 hz1 hz2 rfl (by decide) _ _ _ rfl (HT.out.alloc _).row ⟨wr.heap.size,0,none⟩ 1 1 [.int .u8 x,.int .u8 x] rfl rfl (fun j u hu=>new_cellsGl wr 149 #[.int .u8 x,.int .u8 x] j u hu) (two_oneGl _ _) (by unfold maxLen;omega) (by omega) (HT.out.alloc _).size ?_;intro v2 w3 hown' hgrow _))
     go_roundw
     case rel=>exact⟨k+n,acc++[(lo,lo)],q2,by go_num,HX.out,(HT.out.alloc _).span (p:=(lo,lo)) (by rw[HLO.out] at hown';exact hown') hgrow,by rw[List.length_append];simp;omega⟩
     case measure=>simp[intOf];omega
  ·obtain⟨m,hm⟩:∃ m,m=acc.length:=⟨_,rfl⟩
   have hacc2:=hacc;rw[←hm] at hacc hcap HT ⊢;have HM:=Lib.hid hm;clear hm;by_cases h0:0<m
   ·have hne:acc≠[]:=by
     rintro rfl;have:=HM.out;simp at this;omega
    by_cases a:k<s.size
    ·by_cases c93:s[k]=93
     ·have b93:((s[k].toNat:Int)==93)=true:=byte_eqGl (n:=93) c93 (by omega)
      have HX:Hid (R= .ok acc (k+1)):=Lib.hid (by rw[←HG.out,goS_end hne (by rw[get_at s k a,c93])]);clear c93 hne;go_wp2
      go_ret3
      rw[HX.out];have:=HT.out;rw[HM.out] at this ⊢;exact⟨_,rfl,this⟩
     ·have b93:((s[k].toNat:Int)==93)=false:=byte_neGl (n:=93) c93 (by omega)
      have hno:Hid (¬ (acc≠[]∧s.data.toList[k]?=some 93)):=Lib.hid (by rintro⟨_,h⟩;rw[get_at s k a] at h;injection h with h;exact c93 h);clear c93 hne
      rcases h1:rb sgI s.data.toList k with q | ⟨lo,q⟩
      ·have HX:Hid (R= .bad q):=Lib.hid (by rw[←HG.out,goS_bad hno.out (by unfold item;rw[h1])])
       have KA:Hid (∀ w,Calls Tryz.prog 114 #[.string s,.int .i64 (k:Int)] w fun e w'=>e= .returned (.tuple #[.int .u8 0,.int .i64 (-1),.int .i64 q])∧w=w'):=Lib.hid fun w=>ritem_at s (k:Int) k rfl (by omega) hs h1 w
       clear h1;go_wp2_with (go_at_call 114;((with_reducible refine(KA.out _).mono ?_));rintro e w1 ⟨rfl,rfl⟩)
       go_ret3
       rw[HX.out];exact⟨_,rfl,⟨World.ownsRow_nil _ _ _ _,HT.out.below,HT.out.size⟩⟩
      ·obtain⟨q1,q2⟩:=rb_ok (by rw[len_dataGl];exact hk) h1
       rw[len_dataGl] at q2;obtain⟨n,rfl⟩:∃ n:Nat,q=k+n:=⟨q - k,by omega⟩;obtain⟨x,hx⟩:∃ x:Int,x=(lo.toNat:Int):=⟨_,rfl⟩;have HLO:=Lib.hid hx
       have KA:Hid (∀ w,Calls Tryz.prog 114 #[.string s,.int .i64 (k:Int)] w fun e w'=>e= .returned (.tuple #[.int .u8 x,.int .i64 n,.int .i64 0])∧w=w'):=Lib.hid fun w=>by
        have:=ritem_at s (k:Int) k rfl (by omega) hs h1 w;rw[resR_ok (n:=(n:Int)) (by omega),←hx] at this;exact this
       have hn2:n≤1000000:=by omega
       have hn0:0<n:=by omega
       have it:=item_of h1;clear h1 hx;by_cases a:k+n<s.size
       ·by_cases c45:s[k+n]=45
        ·have b45:((s[k+n].toNat:Int)==45)=true:=byte_eqGl (n:=45) c45 (by omega)
         have it2:=it.1 (by rw[get_at s (k+n) a,c45]);clear c45 it
         rcases h2:rb sgI s.data.toList (k+n+1) with r | ⟨hi,r⟩
         ·have HX:Hid (R= .bad r):=Lib.hid (by rw[←HG.out,goS_bad hno.out (by rw[it2,h2])])
          have KB:Hid (∀ w,Calls Tryz.prog 114 #[.string s,.int .i64 ((k:Int)+(n:Int)+1)] w fun e w'=>e= .returned (.tuple #[.int .u8 0,.int .i64 (-1),.int .i64 r])∧w=w'):=Lib.hid fun w=>ritem_at s ((k:Int)+(n:Int)+1) (k+n+1) (by omega) (by omega) hs h2 w
          clear h2 it2;go_wp2_with (first | (go_at_call 114;((with_reducible refine(KA.out _).mono ?_));rintro e w1 ⟨rfl,rfl⟩) | (go_at_call 114;((with_reducible refine(KB.out _).mono ?_));rintro e w1 ⟨rfl,rfl⟩))
          go_ret3
          rw[HX.out];exact⟨_,rfl,⟨World.ownsRow_nil _ _ _ _,HT.out.below,HT.out.size⟩⟩
         ·obtain⟨r1,r2⟩:=rb_ok (by rw[len_dataGl];omega) h2
          rw[len_dataGl] at r2;obtain⟨d,rfl⟩:∃ d:Nat,r=k+n+1+d:=⟨r - (k+n+1),by omega⟩;obtain⟨y,hy⟩:∃ y:Int,y=(hi.toNat:Int):=⟨_,rfl⟩;have HHI:=Lib.hid hy
          have KB:Hid (∀ w,Calls Tryz.prog 114 #[.string s,.int .i64 ((k:Int)+(n:Int)+1)] w fun e w'=>e= .returned (.tuple #[.int .u8 y,.int .i64 d,.int .i64 0])∧w=w'):=Lib.hid fun w=>by
           have:=ritem_at s ((k:Int)+(n:Int)+1) (k+n+1) (by omega) (by omega) hs h2 w;rw[resR_ok (n:=(d:Int)) (by omega),←hy] at this;exact this
          rw[h2] at it2;dsimp only at it2;rw[←HLO.out,←hy] at it2;have hd2:d≤1000000:=by omega
          by_cases hlt:y<x
          ·rw[if_pos hlt] at it2
           have HX:Hid (R= .bad (k+n+1+d - 1)):=Lib.hid (by rw[←HG.out,goS_bad hno.out it2]);clear h2 hy it2;go_wp2_with (first | (go_at_call 114;((with_reducible refine(KA.out _).mono ?_));rintro e w1 ⟨rfl,rfl⟩) | (go_at_call 114;((with_reducible refine(KB.out _).mono ?_));rintro e w1 ⟨rfl,rfl⟩))
           go_ret3
           rw[HX.out];exact⟨_,ret_bad (v:= .slice none 0 0) (i:=(k:Int)+(n:Int)+(d:Int)) (q:=k+n+1+d - 1) (by omega),⟨World.ownsRow_nil _ _ _ _,HT.out.below,HT.out.size⟩⟩
          ·rw[if_neg hlt] at it2
           have HX:Hid (goS s.data.toList (k+n+1+d) (acc++[(lo,hi)])=R):=Lib.hid (by rw[←HG.out,goS_ok hno.out (by rw[len_dataGl];exact hk) it2]);clear h2 hy it2;go_wp2_with (first | (go_at_call 114;((with_reducible refine(KA.out _).mono ?_));rintro e w1 ⟨rfl,rfl⟩) | (go_at_call 114;((with_reducible refine(KB.out _).mono ?_));rintro e w1 ⟨rfl,rfl⟩) | (at_builtin;refine wpList_append_own _ rfl (.tmp 75) (.tmp 79) 123 rfl w.heap.size 149 i0 (.agg #[.int .u8 0,.int .u8 0]) 2 2 Tryz.underlying123 hi0 hz0 hz1 hz2 rfl (by decide) _ _ _ rfl (HT.out.alloc _).row ⟨wr.heap.size,0,none⟩ 1 1 [.int .u8 x,.int .u8 y] rfl rfl (fun j u hu=>new_cellsGl wr 149 #[.int .u8 x,.int .u8 y] j u hu) (two_oneGl _ _) (by unfold maxLen;omega) (by omega) (HT.out.alloc _).size ?_;intro v2 w3 hown' hgrow _))
           go_roundw
           case rel=>exact⟨k+n+1+d,acc++[(lo,hi)],r2,by go_num,HX.out,(HT.out.alloc _).span (p:=(lo,hi)) (by rw[HLO.out,HHI.out] at hown';exact hown') hgrow,by rw[List.length_append];simp;omega⟩
           case measure=>simp[intOf];omega
        ·have b45:((s[k+n].toNat:Int)==45)=false:=byte_neGl (n:=45) c45 (by omega)
         have it2:=it.2 (by rw[get_at s (k+n) a];simpa using c45);have HX:Hid (goS s.data.toList (k+n) (acc++[(lo,lo)])=R):=Lib.hid (by rw[←HG.out,goS_ok hno.out (by rw[len_dataGl];exact hk) it2]);clear c45 it it2;go_wp2_with (first | (go_at_call 114;((with_reducible refine(KA.out _).mono ?_));rintro e w1 ⟨rfl,rfl⟩) | (at_builtin;refine wpList_append_own _ rfl (.tmp 75) (.tmp 79) 123 rfl w.heap.size 149 i0 (.agg #[.int .u8 0,.int .u8 0]) 2 2 Tryz.underlying123 hi0 hz0 hz1 hz2 rfl (by decide) _ _ _ rfl (HT.out.alloc _).row ⟨wr.heap.size,0,none⟩ 1 1 [.int .u8 x,.int .u8 x] rfl rfl (fun j u hu=>new_cellsGl wr 149 #[.int .u8 x,.int .u8 x] j u hu) (two_oneGl _ _) (by unfold maxLen;omega) (by omega) (HT.out.alloc _).size ?_;intro v2 w3 hown' hgrow _))
         go_roundw
         case rel=>exact⟨k+n,acc++[(lo,lo)],q2,by go_num,HX.out,(HT.out.alloc _).span (p:=(lo,lo)) (by rw[HLO.out] at hown';exact hown') hgrow,by rw[List.length_append];simp;omega⟩
         case measure=>simp[intOf];omega
       ·have it2:=it.2 (by rw[get_end s (k+n) a];simp)
        have HX:Hid (goS s.data.toList (k+n) (acc++[(lo,lo)])=R):=Lib.hid (by rw[←HG.out,goS_ok hno.out (by rw[len_dataGl];exact hk) it2]);clear it it2;go_wp2_with (first | (go_at_call 114;((with_reducible refine(KA.out _).mono ?_));rintro e w1 ⟨rfl,rfl⟩) | (at_builtin;refine wpList_append_own _ rfl (.tmp 75) (.tmp 79) 123 rfl w.heap.size 149 i0 (.agg #[.int .u8 0,.int .u8 0]) 2 2 Tryz.underlying123 hi0 hz0 hz1 hz2 rfl (by decide) _ _ _ rfl (HT.out.alloc _).row ⟨wr.heap.size,0,none⟩ 1 1 [.int .u8 x,.int .u8 x] rfl rfl (fun j u hu=>new_cellsGl wr 149 #[.int .u8 x,.int .u8 x] j u hu) (two_oneGl _ _) (by unfold maxLen;omega) (by omega) (HT.out.alloc _).size ?_;intro v2 w3 hown' hgrow _))
        go_roundw
        case rel=>exact⟨k+n,acc++[(lo,lo)],q2,by go_num,HX.out,(HT.out.alloc _).span (p:=(lo,lo)) (by rw[HLO.out] at hown';exact hown') hgrow,by rw[List.length_append];simp;omega⟩
        case measure=>simp[intOf];omega
    ·have hno:Hid (¬ (acc≠[]∧s.data.toList[k]?=some 93)):=Lib.hid (by rintro⟨_,h⟩;rw[get_end s k a] at h;cases h)
     clear hne
     rcases h1:rb sgI s.data.toList k with q | ⟨lo,q⟩
     ·have HX:Hid (R= .bad q):=Lib.hid (by rw[←HG.out,goS_bad hno.out (by unfold item;rw[h1])])
      have KA:Hid (∀ w,Calls Tryz.prog 114 #[.string s,.int .i64 (k:Int)] w fun e w'=>e= .returned (.tuple #[.int .u8 0,.int .i64 (-1),.int .i64 q])∧w=w'):=Lib.hid fun w=>ritem_at s (k:Int) k rfl (by omega) hs h1 w
      clear h1;go_wp2_with (go_at_call 114;((with_reducible refine(KA.out _).mono ?_));rintro e w1 ⟨rfl,rfl⟩)
      go_ret3
      rw[HX.out];exact⟨_,rfl,⟨World.ownsRow_nil _ _ _ _,HT.out.below,HT.out.size⟩⟩
     ·exfalso
      obtain⟨q1,q2⟩:=rb_ok (by rw[len_dataGl];exact hk) h1;rw[len_dataGl] at q2;omega
   ·have hno:Hid (¬ (acc≠[]∧s.data.toList[k]?=some 93)):=Lib.hid (by rintro⟨h,_⟩;exact h (List.eq_nil_of_length_eq_zero (by rw[←HM.out];omega)))
    rcases h1:rb sgI s.data.toList k with q | ⟨lo,q⟩
    ·have HX:Hid (R= .bad q):=Lib.hid (by rw[←HG.out,goS_bad hno.out (by unfold item;rw[h1])])
     have KA:Hid (∀ w,Calls Tryz.prog 114 #[.string s,.int .i64 (k:Int)] w fun e w'=>e= .returned (.tuple #[.int .u8 0,.int .i64 (-1),.int .i64 q])∧w=w'):=Lib.hid fun w=>ritem_at s (k:Int) k rfl (by omega) hs h1 w
     clear h1;go_wp2_with (go_at_call 114;((with_reducible refine(KA.out _).mono ?_));rintro e w1 ⟨rfl,rfl⟩)
     go_ret3
     rw[HX.out];exact⟨_,rfl,⟨World.ownsRow_nil _ _ _ _,HT.out.below,HT.out.size⟩⟩
    ·obtain⟨q1,q2⟩:=rb_ok (by rw[len_dataGl];exact hk) h1
     rw[len_dataGl] at q2;obtain⟨n,rfl⟩:∃ n:Nat,q=k+n:=⟨q - k,by omega⟩;obtain⟨x,hx⟩:∃ x:Int,x=(lo.toNat:Int):=⟨_,rfl⟩;have HLO:=Lib.hid hx
     have KA:Hid (∀ w,Calls Tryz.prog 114 #[.string s,.int .i64 (k:Int)] w fun e w'=>e= .returned (.tuple #[.int .u8 x,.int .i64 n,.int .i64 0])∧w=w'):=Lib.hid fun w=>by
      have:=ritem_at s (k:Int) k rfl (by omega) hs h1 w;rw[resR_ok (n:=(n:Int)) (by omega),←hx] at this;exact this
     have hn2:n≤1000000:=by omega
     have hn0:0<n:=by omega
     have it:=item_of h1;clear h1 hx;by_cases a:k+n<s.size
     ·by_cases c45:s[k+n]=45
      ·have b45:((s[k+n].toNat:Int)==45)=true:=byte_eqGl (n:=45) c45 (by omega)
       have it2:=it.1 (by rw[get_at s (k+n) a,c45]);clear c45 it
       rcases h2:rb sgI s.data.toList (k+n+1) with r | ⟨hi,r⟩
       ·have HX:Hid (R= .bad r):=Lib.hid (by rw[←HG.out,goS_bad hno.out (by rw[it2,h2])])
        have KB:Hid (∀ w,Calls Tryz.prog 114 #[.string s,.int .i64 ((k:Int)+(n:Int)+1)] w fun e w'=>e= .returned (.tuple #[.int .u8 0,.int .i64 (-1),.int .i64 r])∧w=w'):=Lib.hid fun w=>ritem_at s ((k:Int)+(n:Int)+1) (k+n+1) (by omega) (by omega) hs h2 w
        clear h2 it2;go_wp2_with (first | (go_at_call 114;((with_reducible refine(KA.out _).mono ?_));rintro e w1 ⟨rfl,rfl⟩) | (go_at_call 114;((with_reducible refine(KB.out _).mono ?_));rintro e w1 ⟨rfl,rfl⟩))
        go_ret3
        rw[HX.out];exact⟨_,rfl,⟨World.ownsRow_nil _ _ _ _,HT.out.below,HT.out.size⟩⟩
       ·obtain⟨r1,r2⟩:=rb_ok (by rw[len_dataGl];omega) h2
        rw[len_dataGl] at r2;obtain⟨d,rfl⟩:∃ d:Nat,r=k+n+1+d:=⟨r - (k+n+1),by omega⟩;obtain⟨y,hy⟩:∃ y:Int,y=(hi.toNat:Int):=⟨_,rfl⟩;have HHI:=Lib.hid hy
        have KB:Hid (∀ w,Calls Tryz.prog 114 #[.string s,.int .i64 ((k:Int)+(n:Int)+1)] w fun e w'=>e= .returned (.tuple #[.int .u8 y,.int .i64 d,.int .i64 0])∧w=w'):=Lib.hid fun w=>by
         have:=ritem_at s ((k:Int)+(n:Int)+1) (k+n+1) (by omega) (by omega) hs h2 w;rw[resR_ok (n:=(d:Int)) (by omega),←hy] at this;exact this
        rw[h2] at it2;dsimp only at it2;rw[←HLO.out,←hy] at it2;have hd2:d≤1000000:=by omega
        by_cases hlt:y<x
        ·rw[if_pos hlt] at it2
         have HX:Hid (R= .bad (k+n+1+d - 1)):=Lib.hid (by rw[←HG.out,goS_bad hno.out it2]);clear h2 hy it2;go_wp2_with (first | (go_at_call 114;((with_reducible refine(KA.out _).mono ?_));rintro e w1 ⟨rfl,rfl⟩) | (go_at_call 114;((with_reducible refine(KB.out _).mono ?_));rintro e w1 ⟨rfl,rfl⟩))
         go_ret3
         rw[HX.out];exact⟨_,ret_bad (v:= .slice none 0 0) (i:=(k:Int)+(n:Int)+(d:Int)) (q:=k+n+1+d - 1) (by omega),⟨World.ownsRow_nil _ _ _ _,HT.out.below,HT.out.size⟩⟩
        ·rw[if_neg hlt] at it2
         have HX:Hid (goS s.data.toList (k+n+1+d) (acc++[(lo,hi)])=R):=Lib.hid (by rw[←HG.out,goS_ok hno.out (by rw[len_dataGl];exact hk) it2]);clear h2 hy it2;go_wp2_with (first | (go_at_call 114;((with_reducible refine(KA.out _).mono ?_));rintro e w1 ⟨rfl,rfl⟩) | (go_at_call 114;((with_reducible refine(KB.out _).mono ?_));rintro e w1 ⟨rfl,rfl⟩) | (at_builtin;refine wpList_append_own _ rfl (.tmp 75) (.tmp 79) 123 rfl w.heap.size 149 i0 (.agg #[.int .u8 0,.int .u8 0]) 2 2 Tryz.underlying123 hi0 hz0 hz1 hz2 rfl (by decide) _ _ _ rfl (HT.out.alloc _).row ⟨wr.heap.size,0,none⟩ 1 1 [.int .u8 x,.int .u8 y] rfl rfl (fun j u hu=>new_cellsGl wr 149 #[.int .u8 x,.int .u8 y] j u hu) (two_oneGl _ _) (by unfold maxLen;omega) (by omega) (HT.out.alloc _).size ?_;intro v2 w3 hown' hgrow _))
         go_roundw
         case rel=>exact⟨k+n+1+d,acc++[(lo,hi)],r2,by go_num,HX.out,(HT.out.alloc _).span (p:=(lo,hi)) (by rw[HLO.out,HHI.out] at hown';exact hown') hgrow,by rw[List.length_append];simp;omega⟩
         case measure=>simp[intOf];omega
      ·have b45:((s[k+n].toNat:Int)==45)=false:=byte_neGl (n:=45) c45 (by omega)
       have it2:=it.2 (by rw[get_at s (k+n) a];simpa using c45);have HX:Hid (goS s.data.toList (k+n) (acc++[(lo,lo)])=R):=Lib.hid (by rw[←HG.out,goS_ok hno.out (by rw[len_dataGl];exact hk) it2]);clear c45 it it2;go_wp2_with (first | (go_at_call 114;((with_reducible refine(KA.out _).mono ?_));rintro e w1 ⟨rfl,rfl⟩) | (at_builtin;refine wpList_append_own _ rfl (.tmp 75) (.tmp 79) 123 rfl w.heap.size 149 i0 (.agg #[.int .u8 0,.int .u8 0]) 2 2 Tryz.underlying123 hi0 hz0 hz1 hz2 rfl (by decide) _ _ _ rfl (HT.out.alloc _).row ⟨wr.heap.size,0,none⟩ 1 1 [.int .u8 x,.int .u8 x] rfl rfl (fun j u hu=>new_cellsGl wr 149 #[.int .u8 x,.int .u8 x] j u hu) (two_oneGl _ _) (by unfold maxLen;omega) (by omega) (HT.out.alloc _).size ?_;intro v2 w3 hown' hgrow _))
       go_roundw
       case rel=>exact⟨k+n,acc++[(lo,lo)],q2,by go_num,HX.out,(HT.out.alloc _).span (p:=(lo,lo)) (by rw[HLO.out] at hown';exact hown') hgrow,by rw[List.length_append];simp;omega⟩
       case measure=>simp[intOf];omega
     ·have it2:=it.2 (by rw[get_end s (k+n) a];simp)
      have HX:Hid (goS s.data.toList (k+n) (acc++[(lo,lo)])=R):=Lib.hid (by rw[←HG.out,goS_ok hno.out (by rw[len_dataGl];exact hk) it2]);clear it it2;go_wp2_with (first | (go_at_call 114;((with_reducible refine(KA.out _).mono ?_));rintro e w1 ⟨rfl,rfl⟩) | (at_builtin;refine wpList_append_own _ rfl (.tmp 75) (.tmp 79) 123 rfl w.heap.size 149 i0 (.agg #[.int .u8 0,.int .u8 0]) 2 2 Tryz.underlying123 hi0 hz0 hz1 hz2 rfl (by decide) _ _ _ rfl (HT.out.alloc _).row ⟨wr.heap.size,0,none⟩ 1 1 [.int .u8 x,.int .u8 x] rfl rfl (fun j u hu=>new_cellsGl wr 149 #[.int .u8 x,.int .u8 x] j u hu) (two_oneGl _ _) (by unfold maxLen;omega) (by omega) (HT.out.alloc _).size ?_;intro v2 w3 hown' hgrow _))
      go_roundw
      case rel=>exact⟨k+n,acc++[(lo,lo)],q2,by go_num,HX.out,(HT.out.alloc _).span (p:=(lo,lo)) (by rw[HLO.out] at hown';exact hown') hgrow,by rw[List.length_append];simp;omega⟩
      case measure=>simp[intOf];omega
def posG (R:Res Gl):Nat:=match R with | .bad q=>q | .ok _ q=>q
def okR (R:Res Gl):Bool:=match R with | .bad _=>false | .ok _ _=>true
def PostG (w0:World) (R:Res Gl) (e:Ending) (w':World):Prop:=
 ∃ (g:Gl) (v:Value),e= .returned (.tuple #[.agg #[.int .i64 g.kind,.int .u8 g.byte.toNat,v],.int .i64 (posG R),.bool (okR R)])∧RowSGl w0.heap.size w0 w' v g.spans∧∀ g' q,R= .ok g' q→g'=g
theorem bcellGl {W w1:World} (hb:Below W.heap.size W w1):(∀ b o,b<W.heap.size→w1.cell? ⟨b,o,none⟩=W.cell? ⟨b,o,none⟩)∧(∀ b o,b<W.heap.size→w1.frozen? ⟨b,o,none⟩=W.frozen? ⟨b,o,none⟩):=
 ⟨fun b o h=>hb.cell (p:=⟨b,o,none⟩) h,fun b o h=>hb.frozen (p:=⟨b,o,none⟩) h⟩
theorem size_leGl {w w1:World} {o:Obj} (hb:Below (w.alloc o).heap.size (w.alloc o) w1):w.heap.size+1≤w1.heap.size:=by
 have:=hb.size;simp at this;omega
theorem own_setGl {w:World} {B T s n:Nat} {v:Value} {xs:List Value} (h:w.ownsRow B T s v n xs) {p:Addr} (hlt:p.block<B) (u:Value):(w.setCell p u).ownsRow B T s v n xs:=by
 refine h.kept (w':=w.setCell p u) (row:=some p.block) ⟨rfl,rfl,rfl,by simp,fun k _ hk=>Below.heap_setCell w p u k (fun e=>hk (by rw[e]))⟩ ?_
 rcases hv:v.ownBlock with _ | b
 ·exact .inl rfl
 ·right
  have:=(h.lt b hv).1;intro e;injection e with e
  omega
theorem row_box {w w1:World} {o:Obj} {T s n:Nat} {v:Value} {xs:List Value} (h:Row1 T s (w.alloc o).heap.size (w.alloc o) w1 v n xs) (u0 u1 u2:Value):
  Row1 T s w.heap.size w (((w1.setCell ⟨w.heap.size,0,none⟩ u0).setCell ⟨w.heap.size,1,none⟩ u1).setCell ⟨w.heap.size,2,none⟩ u2) v n xs:=by
 have e:(w.alloc o).heap.size=w.heap.size+1:=by simp
 have hz:=size_leGl h.below;refine⟨(own_setGl (own_setGl (own_setGl h.row ?_ u0) ?_ u1) ?_ u2).mono (by omega),?_,by simp;omega⟩
 ·rw[e];exact Nat.lt_succ_self _
 ·rw[e];exact Nat.lt_succ_self _
 ·rw[e];exact Nat.lt_succ_self _
 ·exact((((((Below.refl _ _).alloc (Nat.le_refl _) o).trans (h.below.mono (by omega))).setCell (Nat.le_refl _) u0).setCell (Nat.le_refl _) u1).setCell (Nat.le_refl _) u2)
theorem readpiece_any (s:ByteArray) (k:Nat) (hk:k<s.size) (hs:s.size≤1000000) (w:World):
  Calls Tryz.prog 133 #[.string s,.int .i64 k] w (PostG w (piece s.data.toList k)):=by
 obtain⟨R,hR⟩:∃ R,R=piece s.data.toList k:=⟨_,rfl⟩;rw[←hR];unfold piece at hR;rw[get_at s k hk] at hR;simp only[Option.some.injEq] at hR;by_cases c42:s[k]=42
 ·have b42:((s[k].toNat:Int)==42)=true:=byte_eqGl (n:=42) c42 (by omega)
  rw[if_pos c42] at hR;have HR:=Lib.hid hR;clear hR c42;go_enter Tryz.func133,Tryz.ntmps133;go_wp2;rw[HR.out];exact bodyPost_ret (v:= .tuple #[.agg #[.int .i64 2,.int .u8 0,.slice none 0 0],.int .i64 ((k:Int)+1),.bool true]) (by simp[results,Tryz.results133,go_sem]) rfl ⟨⟨2,0,[]⟩,_,rfl,⟨World.ownsRow_nil _ _ _ _,(Below.refl _ _).alloc (Nat.le_refl _) _,by simp⟩,by intro g' q h;injection h with h _;exact h.symm⟩
 ·have b42:((s[k].toNat:Int)==42)=false:=byte_neGl (n:=42) c42 (by omega)
  rw[if_neg c42] at hR;by_cases c63:s[k]=63
  ·have b63:((s[k].toNat:Int)==63)=true:=byte_eqGl (n:=63) c63 (by omega)
   rw[if_pos c63] at hR;have HR:=Lib.hid hR;clear hR c42 c63;go_enter Tryz.func133,Tryz.ntmps133;go_wp2;rw[HR.out];exact bodyPost_ret (v:= .tuple #[.agg #[.int .i64 1,.int .u8 0,.slice none 0 0],.int .i64 ((k:Int)+1),.bool true]) (by simp[results,Tryz.results133,go_sem]) rfl ⟨⟨1,0,[]⟩,_,rfl,⟨World.ownsRow_nil _ _ _ _,(Below.refl _ _).alloc (Nat.le_refl _) _,by simp⟩,by intro g' q h;injection h with h _;exact h.symm⟩
  ·have b63:((s[k].toNat:Int)==63)=false:=byte_neGl (n:=63) c63 (by omega)
   rw[if_neg c63] at hR;by_cases c91:s[k]=91
   ·have b91:((s[k].toNat:Int)==91)=true:=byte_eqGl (n:=91) c91 (by omega)
    rw[if_pos c91] at hR;have K32:Hid (∀ w,Calls Tryz.prog 148 #[.string s,.int .i64 ((k:Int)+1)] w (PostS w (goS s.data.toList (k+1) []))):=Lib.hid fun w=>readitems_any s (k+1) hk hs w
    obtain⟨RS,hRS⟩:∃ RS,RS=goS s.data.toList (k+1) []:=⟨_,rfl⟩;rw[←hRS] at K32 hR;have HR:=Lib.hid hR;clear hR c42 c63 c91 hRS;go_enter Tryz.func133,Tryz.ntmps133;go_wp2_with (go_at_call 148;((with_reducible refine(K32.out _).mono ?_));rintro e w1 ⟨v,rfl,hrow⟩;obtain⟨A,c,rfl⟩:=row_slice hrow.row;obtain⟨hc,hf⟩:=bcellGl hrow.below;have hz:=size_leGl hrow.below;have HROW:=Lib.hid hrow;clear hrow);rw[HR.out];refine bodyPost_ret (v:= .tuple #[.agg #[.int .i64 3,.int .u8 0,.slice A (lstS RS).length c],.int .i64 (posS RS),.bool (okS' RS)]) (by simp[results,Tryz.results133,go_sem,hc]) rfl ⟨⟨3,0,lstS RS⟩,_,?_,row_box HROW.out _ _ _,?_⟩
    ·cases RS <;> rfl
    ·intro g' q h
     cases RS with
     | bad q=>cases h
     | ok l q=>injection h with h _;exact h.symm
   ·have b91:((s[k].toNat:Int)==91)=false:=byte_neGl (n:=91) c91 (by omega)
    rw[if_neg c91] at hR;have K33:Hid (∀ w,Calls Tryz.prog 149 #[.string s,.int .i64 (k:Int),.string ⟨#[]⟩] w fun e w'=>e= .returned (resB (rb [] s.data.toList k))∧w=w'):=Lib.hid fun w=>readbyte_anyGl ⟨#[]⟩ s [] k looksE (by omega) hs w
    rcases h1:rb [] s.data.toList k with q | ⟨c,q⟩
    ·rw[h1] at K33 hR
     have K33:Hid (∀ w,Calls Tryz.prog 149 #[.string s,.int .i64 (k:Int),.string ⟨#[]⟩] w fun e w'=>e= .returned (.tuple #[.int .u8 0,.int .i64 q,.bool false])∧w=w'):=K33;have HR:=Lib.hid hR;clear hR c42 c63 c91 h1;go_enter Tryz.func133,Tryz.ntmps133;go_wp2_with (go_at_call 149;((with_reducible refine(K33.out _).mono ?_));rintro e w1 ⟨rfl,rfl⟩);rw[HR.out];exact bodyPost_ret (v:= .tuple #[.agg #[.int .i64 0,.int .u8 0,.slice none 0 0],.int .i64 q,.bool false]) (by simp[results,Tryz.results133,go_sem]) rfl ⟨⟨0,0,[]⟩,_,rfl,⟨World.ownsRow_nil _ _ _ _,(Below.refl _ _).alloc (Nat.le_refl _) _,by simp⟩,by intro g' q h;cases h⟩
    ·rw[h1] at K33 hR
     have K33:Hid (∀ w,Calls Tryz.prog 149 #[.string s,.int .i64 (k:Int),.string ⟨#[]⟩] w fun e w'=>e= .returned (.tuple #[.int .u8 c.toNat,.int .i64 q,.bool true])∧w=w'):=K33;have HR:=Lib.hid hR;clear hR c42 c63 c91 h1;go_enter Tryz.func133,Tryz.ntmps133;go_wp2_with (go_at_call 149;((with_reducible refine(K33.out _).mono ?_));rintro e w1 ⟨rfl,rfl⟩);rw[HR.out];exact bodyPost_ret (v:= .tuple #[.agg #[.int .i64 0,.int .u8 c.toNat,.slice none 0 0],.int .i64 q,.bool true]) (by simp[results,Tryz.results133,go_sem]) rfl ⟨⟨0,c,[]⟩,_,rfl,⟨World.ownsRow_nil _ _ _ _,(Below.refl _ _).alloc (Nat.le_refl _) _,by simp⟩,by intro g' q h;injection h with h _;exact h.symm⟩
def PBad (w0:World) (q:Nat) (e:Ending) (w':World):Prop:=
 ∃ (g:Gl) (v:Value),e= .returned (.tuple #[.agg #[.int .i64 g.kind,.int .u8 g.byte.toNat,v],.int .i64 q,.bool false])∧RowSGl w0.heap.size w0 w' v g.spans
def POk (w0:World) (g:Gl) (q:Nat) (e:Ending) (w':World):Prop:=
 ∃ v:Value,e= .returned (.tuple #[.agg #[.int .i64 g.kind,.int .u8 g.byte.toNat,v],.int .i64 q,.bool true])∧RowSGl w0.heap.size w0 w' v g.spans
theorem piece_b (s:ByteArray) (k q:Nat) (hk:k<s.size) (hs:s.size≤1000000) (h:piece s.data.toList k= .bad q) (w:World):Calls Tryz.prog 133 #[.string s,.int .i64 k] w (PBad w q):=by
 have:=readpiece_any s k hk hs w;rw[h] at this;exact this.mono fun e w' ⟨g,v,he,hr,_⟩=>⟨g,v,he,hr⟩
theorem piece_o (s:ByteArray) (k q:Nat) (g:Gl) (hk:k<s.size) (hs:s.size≤1000000) (h:piece s.data.toList k= .ok g q) (w:World):Calls Tryz.prog 133 #[.string s,.int .i64 k] w (POk w g q):=by
 have:=readpiece_any s k hk hs w;rw[h] at this
 exact this.mono fun e w' ⟨g',v,he,hr,hg⟩=>by
  obtain rfl:=hg g q rfl;exact⟨v,he,hr⟩
def PostPGl (w0:World) (R:Option (List Gl) × Nat × Int) (e:Ending) (w':World):Prop:=
 ∃ (v:Value) (l:List Gv),e= .returned (.tuple #[v,.int .i64 R.2.1,.int .i64 R.2.2])∧Pcs w0.heap.size w0 w' v l∧l.map (·.1)=R.1.getD []
def LoopPGl (s:ByteArray) (w0:World) (R:Option (List Gl) × Nat) (v a:Value) (w:World):Prop:=
 ∃ (k:Nat) (l:List Gv),k≤s.size∧a= .int .i64 k∧goP s.data.toList k (l.map (·.1))=R∧Pcs w0.heap.size w0 w v l∧l.length≤k
def outP (R:Option (List Gl) × Nat):Option (List Gl) × Nat × Int:=match R with | (none,q)=>(none,q,1) | (some l,q)=>(some l,q,0)
theorem parse_out (s:Bs) (h:¬ 200<s.length):parseGl s=outP (goP s 0 []):=by unfold parseGl outP;rw[if_neg h];rfl
theorem parse_anyGl (s:ByteArray) (hs:s.size≤1000000) (w:World):Calls Tryz.prog 113 #[.string s] w (PostPGl w (parseGl s.data.toList)):=by
 by_cases h200:200<s.size
 ·have hR:parseGl s.data.toList=(none,200,2):=by unfold parseGl;rw[if_pos (by rw[len_dataGl];exact h200)]
  rw[hR];clear hR;go_enter Tryz.func113,Tryz.ntmps113;go_wp2
  go_ret3
  exact⟨_,[],rfl,Pcs.nil w,rfl⟩
 ·obtain⟨R,hR⟩:∃ R,R=goP s.data.toList 0 []:=⟨_,rfl⟩
  rw[parse_out _ (by rw[len_dataGl];exact h200),←hR];have HR:=Lib.hid hR.symm;obtain⟨i0,hi0,hz0,hz1,hz2⟩:=info_parts info40;clear hR;go_enter Tryz.func113,Tryz.ntmps113;go_wp2
  go_loopw [5,6] (fun v a wr=>LoopPGl s w R v a wr) (fun _ a _=>s.size - (intOf a).toNat)
  case atStart=>exact⟨0,[],by omega,rfl,HR.out,Pcs.nil w,by simp⟩
  case round=>
   obtain⟨k,l,hk,rfl,hg,hT,hl⟩:=hrel;have HG:=Lib.hid hg;have HT:=Lib.hid hT;clear hg hT;by_cases a:k<s.size
   ·rcases hp:piece s.data.toList k with q | ⟨g,q⟩
    ·have HX:Hid (R=(none,q)):=Lib.hid (by rw[←HG.out,goP_bad (by rw[len_dataGl];exact a) hp])
     have K:=Lib.hid fun w=>piece_b s k q a hs hp w
     clear hp;go_wp2_with (go_at_call 133;((with_reducible refine(K.out _).mono ?_));rintro e w1 ⟨g,v,rfl,hrow⟩;obtain⟨A,c,rfl⟩:=row_slice hrow.row;have HROW:=Lib.hid hrow;clear hrow)
     go_ret3
     rw[HX.out];have HN:=(HT.out.beyond HROW.out.below).alloc (.cells #[.int .i64 g.kind,.int .u8 g.byte.toNat,.slice A g.spans.length c] 125);exact⟨_,[],rfl,⟨World.ownsRow_nil _ _ _ _,by simp,HN.below,HN.size⟩,rfl⟩
    ·obtain⟨q1,q2⟩:=piece_ok (by rw[len_dataGl];exact a) hp
     rw[len_dataGl] at q2;have HX:Hid (goP s.data.toList q (l.map (·.1)++[g])=R):=Lib.hid (by rw[←HG.out,goP_ok (by rw[len_dataGl];exact a) hp]);have K:=Lib.hid fun w=>piece_o s k q g a hs hp w
     clear hp;go_wp2_with (first | (go_at_call 133;((with_reducible refine(K.out _).mono ?_));rintro e w1 ⟨v,rfl,hrow⟩;obtain⟨A,c,rfl⟩:=row_slice hrow.row;have HROW:=Lib.hid hrow;clear hrow) | (at_builtin;refine wpList_append_own _ rfl (.tmp 27) (.tmp 29) 95 rfl w.heap.size 125 i0 (.agg #[.int .i64 0,.int .u8 0,.slice none 0 0]) 3 40 Tryz.underlying95 hi0 hz0 hz1 hz2 rfl (by decide) _ _ _ rfl (((HT.out.beyond HROW.out.below).alloc _).alloc _).row ⟨w1.heap.size+1,0,none⟩ 1 1 [.int .i64 g.kind,.int .u8 g.byte.toNat,.slice A g.spans.length c] rfl rfl (fun j u hu=>new_cells2 w1 (.cells #[.int .i64 g.kind,.int .u8 g.byte.toNat,.slice A g.spans.length c] 125) 125 #[.int .i64 g.kind,.int .u8 g.byte.toNat,.slice A g.spans.length c] j u hu) (three_one _ _ _ _ _) (by unfold maxLen;omega) (by omega) (((HT.out.beyond HROW.out.below).alloc _).alloc _).size ?_;intro v2 w3 hown' hgrow _))
     go_roundw
     case rel=>
      refine⟨q,l++[(g,_)],q2,rfl,by rw[List.map_append];exact HX.out,(((HT.out.beyond HROW.out.below).alloc _).alloc _).piece (g:=g) ?_ hown' hgrow,by rw[List.length_append];simp;omega⟩;exact(((HROW.out.row.mono HT.out.size).alloc _).alloc _)
     case measure=>simp[intOf];omega
   ·have HX:Hid (R=(some (l.map (·.1)),0)):=Lib.hid (by rw[←HG.out,goP_end (by rw[len_dataGl];exact a)])
    go_wp2
    go_ret3
    rw[HX.out];exact⟨_,l,rfl,HT.out,rfl⟩
def RBad (w0:World) (q:Nat) (e:Ending) (w':World):Prop:=∃ v,e= .returned (.tuple #[v,.int .i64 (-1),.int .i64 q])∧RowSGl w0.heap.size w0 w' v []
def ROk (w0:World) (l:List Sp) (q:Nat) (e:Ending) (w':World):Prop:=∃ v,e= .returned (.tuple #[v,.int .i64 q,.int .i64 0])∧RowSGl w0.heap.size w0 w' v l
theorem rspans_b (s:ByteArray) (i:Int) (k q:Nat) (hi:i=k) (hk:k≤s.size) (hs:s.size≤1000000) (h:goS s.data.toList k []= .bad q) (w:World):Calls Tryz.prog 80 #[.string s,.int .i64 i] w (RBad w q):=by
 subst hi;have:=rspans_any s k hk hs w;rw[h] at this;exact this.mono fun e w' ⟨v,he,hr⟩=>⟨v,he,hr⟩
theorem rspans_o (s:ByteArray) (i:Int) (k q:Nat) (l:List Sp) (hi:i=k) (hk:k≤s.size) (hs:s.size≤1000000) (h:goS s.data.toList k []= .ok l q) (w:World):Calls Tryz.prog 80 #[.string s,.int .i64 i] w (ROk w l q):=by
 subst hi;have:=rspans_any s k hk hs w;rw[h] at this;exact this.mono fun e w' ⟨v,he,hr⟩=>⟨v,he,hr⟩
theorem rparse_anyGl (s:ByteArray) (hs:s.size≤1000000) (w:World):Calls Tryz.prog 55 #[.string s] w (PostPGl w (parseGl s.data.toList)):=by
 by_cases h200:200<s.size
 ·have hR:parseGl s.data.toList=(none,200,2):=by unfold parseGl;rw[if_pos (by rw[len_dataGl];exact h200)]
  rw[hR];clear hR;go_enter Tryz.func55,Tryz.ntmps55;go_wp2
  go_ret3
  exact⟨_,[],rfl,Pcs.nil w,rfl⟩
 ·obtain⟨R,hR⟩:∃ R,R=goP s.data.toList 0 []:=⟨_,rfl⟩
  rw[parse_out _ (by rw[len_dataGl];exact h200),←hR];have HR:=Lib.hid hR.symm;obtain⟨i0,hi0,hz0,hz1,hz2⟩:=info_parts info40;clear hR;go_enter Tryz.func55,Tryz.ntmps55;go_wp2
  go_loopw [5,6] (fun v a wr=>LoopPGl s w R v a wr) (fun _ a _=>s.size - (intOf a).toNat)
  case atStart=>exact⟨0,[],by omega,rfl,HR.out,Pcs.nil w,by simp⟩
  case round=>
   obtain⟨k,l,hk,rfl,hg,hT,hl⟩:=hrel;have HG:=Lib.hid hg;have HT:=Lib.hid hT;clear hg hT;by_cases a:k<s.size
   ·have hpc:piece s.data.toList k=piece s.data.toList k:=rfl
    conv at hpc=>rhs;unfold piece
    rw[get_at s k a] at hpc;simp only[Option.some.injEq] at hpc;by_cases c42:s[k]=42
    ·have b42:((s[k].toNat:Int)==42)=true:=byte_eqGl (n:=42) c42 (by omega)
     rw[if_pos c42] at hpc;have hp:=Lib.hid hpc;clear hpc c42;have HX:Hid (goP s.data.toList (k+1) (l.map (·.1)++[⟨2,0,[]⟩])=R):=Lib.hid (by rw[←HG.out,goP_ok (by rw[len_dataGl];exact a) hp.out]);clear hp;go_wp2_with (at_builtin;refine wpList_append_own _ rfl (.tmp 25) (.tmp 27) 95 rfl w.heap.size 125 i0 (.agg #[.int .i64 0,.int .u8 0,.slice none 0 0]) 3 40 Tryz.underlying95 hi0 hz0 hz1 hz2 rfl (by decide) _ _ _ rfl (HT.out.alloc _).row ⟨wr.heap.size,0,none⟩ 1 1 [.int .i64 2,.int .u8 0,.slice none 0 0] rfl rfl (fun j u hu=>new_cellsGl wr 125 #[.int .i64 2,.int .u8 0,.slice none 0 0] j u hu) (three_one _ _ _ _ _) (by unfold maxLen;omega) (by omega) (HT.out.alloc _).size ?_;intro v2 w3 hown' hgrow _)
     go_roundw
     case rel=>exact⟨k+1,l++[(⟨2,0,[]⟩,.slice none 0 0)],by omega,by go_num,by rw[List.map_append];exact HX.out,(HT.out.alloc _).piece (g:=⟨2,0,[]⟩) (World.ownsRow_nil _ _ _ _) hown' hgrow,by rw[List.length_append];simp;omega⟩
     case measure=>simp[intOf];omega
    ·have b42:((s[k].toNat:Int)==42)=false:=byte_neGl (n:=42) c42 (by omega)
     rw[if_neg c42] at hpc;by_cases c63:s[k]=63
     ·have b63:((s[k].toNat:Int)==63)=true:=byte_eqGl (n:=63) c63 (by omega)
      rw[if_pos c63] at hpc;have hp:=Lib.hid hpc;clear hpc c42 c63;have HX:Hid (goP s.data.toList (k+1) (l.map (·.1)++[⟨1,0,[]⟩])=R):=Lib.hid (by rw[←HG.out,goP_ok (by rw[len_dataGl];exact a) hp.out]);clear hp;go_wp2_with (at_builtin;refine wpList_append_own _ rfl (.tmp 31) (.tmp 33) 95 rfl w.heap.size 125 i0 (.agg #[.int .i64 0,.int .u8 0,.slice none 0 0]) 3 40 Tryz.underlying95 hi0 hz0 hz1 hz2 rfl (by decide) _ _ _ rfl (HT.out.alloc _).row ⟨wr.heap.size,0,none⟩ 1 1 [.int .i64 1,.int .u8 0,.slice none 0 0] rfl rfl (fun j u hu=>new_cellsGl wr 125 #[.int .i64 1,.int .u8 0,.slice none 0 0] j u hu) (three_one _ _ _ _ _) (by unfold maxLen;omega) (by omega) (HT.out.alloc _).size ?_;intro v2 w3 hown' hgrow _)
      go_roundw
      case rel=>exact⟨k+1,l++[(⟨1,0,[]⟩,.slice none 0 0)],by omega,by go_num,by rw[List.map_append];exact HX.out,(HT.out.alloc _).piece (g:=⟨1,0,[]⟩) (World.ownsRow_nil _ _ _ _) hown' hgrow,by rw[List.length_append];simp;omega⟩
      case measure=>simp[intOf];omega
     ·have b63:((s[k].toNat:Int)==63)=false:=byte_neGl (n:=63) c63 (by omega)
      rw[if_neg c63] at hpc;by_cases c91:s[k]=91
      ·have b91:((s[k].toNat:Int)==91)=true:=byte_eqGl (n:=91) c91 (by omega)
       rw[if_pos c91] at hpc
       rcases hS:goS s.data.toList (k+1) [] with q | ⟨ls,q⟩
       ·rw[hS] at hpc
        have HX:Hid (R=(none,q)):=Lib.hid (by rw[←HG.out,goP_bad (by rw[len_dataGl];exact a) hpc]);have K:=Lib.hid fun w=>rspans_b s ((k:Int)+1) (k+1) q rfl (by omega) hs hS w
        clear hpc hS c42 c63 c91;go_wp2_with (go_at_call 80;((with_reducible refine(K.out _).mono ?_));rintro e w1 ⟨v,rfl,hrow⟩;obtain⟨A,c,rfl⟩:=row_slice hrow.row;have HROW:=Lib.hid hrow;clear hrow)
        go_ret3
        rw[HX.out];have HN:=HT.out.beyond HROW.out.below;exact⟨_,[],rfl,⟨World.ownsRow_nil _ _ _ _,by simp,HN.below,HN.size⟩,rfl⟩
       ·rw[hS] at hpc
        obtain⟨q1,q2,_⟩:=goS_okb (by rw[len_dataGl];exact a) hS;rw[len_dataGl] at q2;have HX:Hid (goP s.data.toList q (l.map (·.1)++[⟨3,0,ls⟩])=R):=Lib.hid (by rw[←HG.out,goP_ok (by rw[len_dataGl];exact a) hpc]);have K:=Lib.hid fun w=>rspans_o s ((k:Int)+1) (k+1) q ls rfl (by omega) hs hS w
        clear hpc hS c42 c63 c91;go_wp2_with (first | (go_at_call 80;((with_reducible refine(K.out _).mono ?_));rintro e w1 ⟨v,rfl,hrow⟩;obtain⟨A,c,rfl⟩:=row_slice hrow.row;have HROW:=Lib.hid hrow;clear hrow) | (at_builtin;refine wpList_append_own _ rfl (.tmp 47) (.tmp 50) 95 rfl w.heap.size 125 i0 (.agg #[.int .i64 0,.int .u8 0,.slice none 0 0]) 3 40 Tryz.underlying95 hi0 hz0 hz1 hz2 rfl (by decide) _ _ _ rfl ((HT.out.beyond HROW.out.below).alloc _).row ⟨w1.heap.size,0,none⟩ 1 1 [.int .i64 3,.int .u8 0,.slice A ls.length c] rfl rfl (fun j u hu=>new_cellsGl w1 125 #[.int .i64 3,.int .u8 0,.slice A ls.length c] j u hu) (three_one _ _ _ _ _) (by unfold maxLen;omega) (by omega) ((HT.out.beyond HROW.out.below).alloc _).size ?_;intro v2 w3 hown' hgrow _))
        go_roundw
        case rel=>exact⟨q,l++[(⟨3,0,ls⟩,.slice A ls.length c)],q2,rfl,by rw[List.map_append];exact HX.out,((HT.out.beyond HROW.out.below).alloc _).piece (g:=⟨3,0,ls⟩) ((HROW.out.row.mono HT.out.size).alloc _) hown' hgrow,by rw[List.length_append];simp;omega⟩
        case measure=>simp[intOf];omega
      ·have b91:((s[k].toNat:Int)==91)=false:=byte_neGl (n:=91) c91 (by omega)
       rw[if_neg c91] at hpc;unfold rb at hpc;rw[drop_atGl s k a] at hpc;dsimp only at hpc;by_cases c92:s[k]=92
       ·have b92:((s[k].toNat:Int)==92)=true:=byte_eqGl (n:=92) c92 (by omega)
        rw[if_pos c92] at hpc;by_cases a1:k+1<s.size
        ·rw[drop_atGl s (k+1) a1] at hpc
         obtain⟨x,hx⟩:∃ x:UInt8,x=s[k+1]:=⟨_,rfl⟩;have hp:=Lib.hid hpc;clear hpc c42 c63 c91 c92 hx;have HX:Hid (goP s.data.toList (k+2) (l.map (·.1)++[⟨0,s[k+1],[]⟩])=R):=Lib.hid (by rw[←HG.out,goP_ok (by rw[len_dataGl];exact a) hp.out]);clear hp;go_wp2_with (at_builtin;refine wpList_append_own _ rfl (.tmp 65) (.tmp 68) 95 rfl w.heap.size 125 i0 (.agg #[.int .i64 0,.int .u8 0,.slice none 0 0]) 3 40 Tryz.underlying95 hi0 hz0 hz1 hz2 rfl (by decide) _ _ _ rfl (HT.out.alloc _).row ⟨wr.heap.size,0,none⟩ 1 1 [.int .i64 0,.int .u8 s[k+1].toNat,.slice none 0 0] rfl rfl (fun j u hu=>new_cellsGl wr 125 #[.int .i64 0,.int .u8 s[k+1].toNat,.slice none 0 0] j u hu) (three_one _ _ _ _ _) (by unfold maxLen;omega) (by omega) (HT.out.alloc _).size ?_;intro v2 w3 hown' hgrow _)
         go_roundw
         case rel=>exact⟨k+2,l++[(⟨0,s[k+1],[]⟩,.slice none 0 0)],by omega,by go_num,by rw[List.map_append];exact HX.out,(HT.out.alloc _).piece (g:=⟨0,s[k+1],[]⟩) (World.ownsRow_nil _ _ _ _) hown' hgrow,by rw[List.length_append];simp;omega⟩
         case measure=>simp[intOf];omega
        ·rw[drop_endGl s (k+1) a1] at hpc
         have HX:Hid (R=(none,k+1)):=Lib.hid (by rw[←HG.out,goP_bad (by rw[len_dataGl];exact a) hpc]);clear hpc c42 c63 c91 c92;go_wp2
         go_ret3
         rw[HX.out];exact⟨_,[],rfl,⟨World.ownsRow_nil _ _ _ _,by simp,HT.out.below,HT.out.size⟩,rfl⟩
       ·have b92:((s[k].toNat:Int)==92)=false:=byte_neGl (n:=92) c92 (by omega)
        rw[if_neg c92,if_neg (by simp)] at hpc;have hp:=Lib.hid hpc;clear hpc c42 c63 c91 c92;have HX:Hid (goP s.data.toList (k+1) (l.map (·.1)++[⟨0,s[k],[]⟩])=R):=Lib.hid (by rw[←HG.out,goP_ok (by rw[len_dataGl];exact a) hp.out]);clear hp;go_wp2_with (at_builtin;refine wpList_append_own _ rfl (.tmp 65) (.tmp 68) 95 rfl w.heap.size 125 i0 (.agg #[.int .i64 0,.int .u8 0,.slice none 0 0]) 3 40 Tryz.underlying95 hi0 hz0 hz1 hz2 rfl (by decide) _ _ _ rfl (HT.out.alloc _).row ⟨wr.heap.size,0,none⟩ 1 1 [.int .i64 0,.int .u8 s[k].toNat,.slice none 0 0] rfl rfl (fun j u hu=>new_cellsGl wr 125 #[.int .i64 0,.int .u8 s[k].toNat,.slice none 0 0] j u hu) (three_one _ _ _ _ _) (by unfold maxLen;omega) (by omega) (HT.out.alloc _).size ?_;intro v2 w3 hown' hgrow _)
        go_roundw
        case rel=>exact⟨k+1,l++[(⟨0,s[k],[]⟩,.slice none 0 0)],by omega,by go_num,by rw[List.map_append];exact HX.out,(HT.out.alloc _).piece (g:=⟨0,s[k],[]⟩) (World.ownsRow_nil _ _ _ _) hown' hgrow,by rw[List.length_append];simp;omega⟩
        case measure=>simp[intOf];omega
   ·have HX:Hid (R=(some (l.map (·.1)),0)):=Lib.hid (by rw[←HG.out,goP_end (by rw[len_dataGl];exact a)])
    go_wp2
    go_ret3
    rw[HX.out];exact⟨_,l,rfl,HT.out,rfl⟩
end Go.Proofs.YtdobinjbejagcaaGreatDoor
