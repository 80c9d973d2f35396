import Derived.Deep.RegionHeld3
import Derived.Test.YthghbdeaenjckaaGreatDoorEx36
import Derived.Test.YthghbdeaenjckaaGreatDoorTkS
namespace Go.Proofs.YthghbdeaenjckaaGreatDoor
open Go Go.RowKit
set_option maxRecDepth 100000
set_option maxHeartbeats 8000000
def RTokAt (e:Ex) (m:Nat):Prop:=∀ (A:Option Addr) (c:Nat) (w:World),m≤7→KidsX (LtX w.heap.size) w A e→sizeX e≤300000→
 Calls Tryz.prog 12 #[valX e A c,.int .i64 m] w (PostTR w (tokX e m))
theorem rtok_bin_open (op:Bs) (x y:Ex) (hx:RTok x) (hy:RTok y) (hpx:0<(tokP x).length) (hpy:0<(tokP y).length) (m:Nat) (hsh:¬ strong op<m):RTokAt (exBin op x y) m:=by
 intro A c w hm hk hs;have hsz:sizeX (exBin op x y)=1+(sizeX x+sizeX y):=(size_bin op x y).1;have h6:=strong_le op;have hul:=tokX_len x (strong op);have hvl:=tokX_len y (strong op+1);obtain⟨U,hU⟩:∃ U,U=tokX x (strong op):=⟨_,rfl⟩;obtain⟨V,hV⟩:∃ U,U=tokX y (strong op+1):=⟨_,rfl⟩;have HT:Hid (tokX (exBin op x y) m=([])++U++[tSign op]++V):=Lib.hid (by unfold tokX shutT;rw[if_neg (by simpa[exBin,bindsX] using hsh),tok_bin,hU,hV];simp);rw[HT.out];have hposU:0<U.length:=by rw[hU];exact shutT_pos hpx
 have hposV:0<V.length:=by rw[hV];exact shutT_pos hpy
 rw[exBin,KidsX] at hk;obtain⟨ad,rfl,hP,hkl⟩:=hk.resolve_left (by simp);rw[KidsXL,KidsXL] at hkl;obtain⟨⟨A1,c1,h5,hkx⟩,⟨A2,c2,h5',hky⟩,_⟩:=hkl;have e0:ad.add (0 * 5)=ad:=by simp[Addr.add]
 have e1:ad.add ((0+1) * 5)=⟨ad.block,ad.off+5,none⟩:=by simp[Addr.add]
 rw[e0] at h5;rw[e1] at h5'
 have HP5:Hid (∀ W',Below w.heap.size w W'→W'.cell? ad=some (.int .i64 x.kind)∧W'.cell? ⟨ad.block,ad.off+1,none⟩=some (.int .i64 x.n)∧W'.cell? ⟨ad.block,ad.off+2,none⟩=some (.string ⟨x.name.toArray⟩)∧W'.cell? ⟨ad.block,ad.off+3,none⟩=some (.string ⟨x.op.toArray⟩)∧W'.cell? ⟨ad.block,ad.off+4,none⟩=some (.slice A1 x.kids.length c1)):=Lib.hid fun W' hb=>by
  obtain⟨k',n',nm',op',ks'⟩:=x;exact h5.keep (fun p hp=>hb.cell (by rw[hp];exact hP))
 have HQ5:Hid (∀ W',Below w.heap.size w W'→W'.cell? ⟨ad.block,ad.off+5,none⟩=some (.int .i64 y.kind)∧W'.cell? ⟨ad.block,ad.off+5+1,none⟩=some (.int .i64 y.n)∧W'.cell? ⟨ad.block,ad.off+5+2,none⟩=some (.string ⟨y.name.toArray⟩)∧W'.cell? ⟨ad.block,ad.off+5+3,none⟩=some (.string ⟨y.op.toArray⟩)∧W'.cell? ⟨ad.block,ad.off+5+4,none⟩=some (.slice A2 y.kids.length c2)):=Lib.hid fun W' hb=>by
  obtain⟨k',n',nm',op',ks'⟩:=y;exact h5'.keep (fun p hp=>hb.cell (by rw[hp];exact hP))
 obtain⟨st,hst⟩:∃ st,st=strong op:=⟨_,rfl⟩;rw[←hst] at hU hV hul hvl h6 hsh
 have HK:Hid (∀ W,Below w.heap.size w W→Calls Tryz.prog 12 #[.agg #[.int .i64 x.kind,.int .i64 x.n,.string ⟨x.name.toArray⟩,.string ⟨x.op.toArray⟩,.slice A1 x.kids.length c1],.int .i64 st] W (PostTR W U)):=Lib.hid fun W hb=>by
  have:=hx st A1 c1 W (by omega) (hkx.next hb) (by omega);rw[valX_eq] at this;rw[hU];exact this
 have HKy:Hid (∀ W,Below w.heap.size w W→Calls Tryz.prog 12 #[.agg #[.int .i64 y.kind,.int .i64 y.n,.string ⟨y.name.toArray⟩,.string ⟨y.op.toArray⟩,.slice A2 y.kids.length c2],.int .i64 ((st:Int)+1)] W (PostTR W V)):=Lib.hid fun W hb=>by
  have:=hy (st+1) A2 c2 W (by omega) (hky.next hb) (by omega);rw[valX_eq] at this;rw[hV];exact this
 obtain⟨ln,hln⟩:∃ ln,ln=U.length:=⟨_,rfl⟩;have HNU:Hid (U.length=ln):=Lib.hid hln.symm;have HZU:Hid (0<ln):=Lib.hid (by rw[hln];exact hposU);have HLU:Hid ((cellsT (tv U)).length=ln * 5):=Lib.hid (by rw[cellsT_length,tv_len,hln]);obtain⟨lv,hlv⟩:∃ lv,lv=V.length:=⟨_,rfl⟩;have HNV:Hid (V.length=lv):=Lib.hid hlv.symm;have HZV:Hid (0<lv):=Lib.hid (by rw[hlv];exact hposV);have HLV:Hid ((cellsT (tv V)).length=lv * 5):=Lib.hid (by rw[cellsT_length,tv_len,hlv]);have hln9:ln+lv≤900000:=by rw[hln,hU,hlv,hV];omega
 unfold PostTR at HK HKy;rw[←hln] at HK;rw[←hlv] at HKy;have hlt:decide ((st:Int)<(m:Int))=false:=by simp;omega
 have hlt2:decide (st<m)=false:=by simp;omega
 have hwr:IntKind.i64.wrap ((st:Int)+1)=(st:Int)+1:=IntWalk.i64_in _ (by omega);obtain⟨S,hS⟩:∃ S:ByteArray,S=⟨op.toArray⟩:=⟨_,rfl⟩;have HO:=Lib.hid (sk_start w (.cells #[.int .i64 4,.int .i64 0,.string ⟨#[]⟩,.string S,.slice (some ad) 2 c] 24))
 have KB:Hid (∀ W,Calls Tryz.prog 28 #[.agg #[.int .i64 4,.int .i64 0,.string ⟨#[]⟩,.string S,.slice (some ad) 2 c]] W fun e w'=>e= .returned (.int .i64 st)∧Below W.heap.size W w'):=Lib.hid fun W=>by
  have:=bindsX_any (exBin op x y) (some ad) c W;rw[show bindsX (exBin op x y)=st by simp[exBin,bindsX,hst]] at this;rw[hS];exact this
 obtain⟨i0,hi0,hz0,hz1,hz2⟩:=info_parts infoT;obtain⟨t,ht⟩:∃ t,t=tSign op:=⟨_,rfl⟩;have HF:Hid (five t=[.int .i64 4,.string S,.int .i64 0,.slice none 0 0,.int .i64 0]):=Lib.hid (by rw[ht,hS];rfl);have HPT:Hid (t.parts=[]):=Lib.hid (by rw[ht];rfl);rw[←ht];unfold exBin;simp only[valX,List.length_cons,List.length_nil,Nat.zero_add];rw[←hS];clear hk hs hm hsz hul hvl hU hV hposU hposV hP h5 h5' hkx hky e0 e1 hln hlv hst hS ht hx hy hpx hpy hsh;go_enter Tryz.func12,Tryz.ntmps12
 go_wp2_with (first
  | (go_at_call 28;go_must ((with_reducible refine(KB.out _).mono ?_);rintro e w1 ⟨rfl,hb1⟩;have H1:=Lib.hid (HO.out.beyond hb1);obtain⟨d0,d1,d2,d3,d4,_⟩:=H1.out.kept.box (by decide);have HA:=H1;clear hb1)))
 have HD:=Lib.hid (HA.out.beyond (Below.refl _ _).drew);obtain⟨l0,l1,l2,l3,l4⟩:=HP5.out _ HA.out.low
 go_region_held3 (fun W'=>W'.cell? ⟨w.heap.size,0,none⟩=some (.int .i64 4)∧W'.cell? ⟨w.heap.size,1,none⟩=some (.int .i64 0)∧W'.cell? ⟨w.heap.size,2,none⟩=some (.string ⟨#[]⟩)∧W'.cell? ⟨w.heap.size,3,none⟩=some (.string S)∧W'.cell? ⟨w.heap.size,4,none⟩=some (.slice (some ad) 2 c)∧W'.cell? ad=some (.int .i64 x.kind)∧W'.cell? ⟨ad.block,ad.off+1,none⟩=some (.int .i64 x.n)∧W'.cell? ⟨ad.block,ad.off+2,none⟩=some (.string ⟨x.name.toArray⟩)∧W'.cell? ⟨ad.block,ad.off+3,none⟩=some (.string ⟨x.op.toArray⟩)∧W'.cell? ⟨ad.block,ad.off+4,none⟩=some (.slice A1 x.kids.length c1))
  (first | (with_reducible exact⟨d0,d1,d2,d3,d4,l0,l1,l2,l3,l4⟩) | (simp only[World.cell?_drew,d0,d1,d2,d3,d4,l0,l1,l2,l3,l4,and_self]))
  (first
   | (go_at_call 28;((with_reducible refine(KB.out _).mono ?_);rintro e w3 ⟨rfl,hb3⟩;have H3:=Lib.hid (HD.out.beyond hb3);clear hb3 d0 d1 d2 d3 d4 l0 l1 l2 l3 l4;obtain⟨d0,d1,d2,d3,d4,_⟩:=H3.out.kept.box (by decide);obtain⟨l0,l1,l2,l3,l4⟩:=HP5.out _ H3.out.low))
   | (go_at_call 12;((with_reducible refine(HK.out _ H3.out.low).mono ?_);rintro e w4 ⟨g4,cap4,rfl,ht4,hb4⟩;have HT4:=Lib.hid ht4;have H4:=Lib.hid (H3.out.beyond hb4);clear ht4 hb4 d0 d1 d2 d3 d4 l0 l1 l2 l3 l4;obtain⟨d0,d1,d2,d3,d4,_⟩:=H4.out.kept.box (by decide);obtain⟨l0,l1,l2,l3,l4⟩:=HP5.out _ H4.out.low))
   | (refine step_append_lies _ rfl (.tmp 62) (.tmp 69) 27 rfl w.heap.size 38 i0 (.agg #[.int .i64 0,.string ⟨#[]⟩,.int .i64 0,.slice none 0 0,.int .i64 0]) 5 64 Tryz.underlying27 hi0 hz0 hz1 hz2 rfl (by decide) _ (0) (cellsT (tv ([]))) rfl H4.out.row ⟨g4,0,none⟩ ln cap4 (cellsT (tv U)) rfl HLU.out (HT4.out.row.cells rfl) (cellsT_okk U) HZU.out (by first | decide | (unfold maxLen;omega)) (by omega) H4.out.tk.size _ rfl ?_;intro g5 cap5 w5 ho hg hat hlt9;have H5:=Lib.hid (H4.out.cat HT4.out HNU.out ho hg (k:=ln) (by omega));clear ho hg hat hlt9;clear d0 d1 d2 d3 d4 l0 l1 l2 l3 l4;obtain⟨d0,d1,d2,d3,d4,_⟩:=H5.out.kept.box (by decide);obtain⟨l0,l1,l2,l3,l4⟩:=HP5.out _ H5.out.low))
 go_wp2_with (at_builtin;refine wpList_append_lies _ rfl (.tmp 71) (.tmp 75) 27 rfl w.heap.size 38 i0 (.agg #[.int .i64 0,.string ⟨#[]⟩,.int .i64 0,.slice none 0 0,.int .i64 0]) 5 64 Tryz.underlying27 hi0 hz0 hz1 hz2 rfl (by decide) _ (ln) (cellsT (tv (([])++U))) rfl (H5.out.beyond (one_boxX _ _)).row ⟨w5.heap.size,0,none⟩ 1 1 [.int .i64 4,.string S,.int .i64 0,.slice none 0 0,.int .i64 0] rfl rfl (fun j u hu=>new_cells w5 38 #[.int .i64 4,.string S,.int .i64 0,.slice none 0 0,.int .i64 0] j u hu) (by rw[←HF.out];exact five_ok t) (by decide) (by first | decide | (unfold maxLen;omega)) (by omega) (H5.out.beyond (one_boxX _ _)).tk.size _ rfl ?_;intro g6 cap6 w6 ho hg hat hlt9;have H6:=Lib.hid ((H5.out.beyond (one_boxX _ _)).one t HPT.out ho hg HF.out.symm rfl);clear ho hg hat hlt9;clear d0 d1 d2 d3 d4 l0 l1 l2 l3 l4;obtain⟨d0,d1,d2,d3,d4,_⟩:=H6.out.kept.box (by decide));have HE:=Lib.hid (H6.out.beyond (Below.refl _ _).drew);obtain⟨l0,l1,l2,l3,l4⟩:=HQ5.out _ H6.out.low
 go_region_held3 (fun W'=>W'.cell? ⟨w.heap.size,0,none⟩=some (.int .i64 4)∧W'.cell? ⟨w.heap.size,1,none⟩=some (.int .i64 0)∧W'.cell? ⟨w.heap.size,2,none⟩=some (.string ⟨#[]⟩)∧W'.cell? ⟨w.heap.size,3,none⟩=some (.string S)∧W'.cell? ⟨w.heap.size,4,none⟩=some (.slice (some ad) 2 c)∧W'.cell? ⟨ad.block,ad.off+5,none⟩=some (.int .i64 y.kind)∧W'.cell? ⟨ad.block,ad.off+5+1,none⟩=some (.int .i64 y.n)∧W'.cell? ⟨ad.block,ad.off+5+2,none⟩=some (.string ⟨y.name.toArray⟩)∧W'.cell? ⟨ad.block,ad.off+5+3,none⟩=some (.string ⟨y.op.toArray⟩)∧W'.cell? ⟨ad.block,ad.off+5+4,none⟩=some (.slice A2 y.kids.length c2))
  (first | (with_reducible exact⟨d0,d1,d2,d3,d4,l0,l1,l2,l3,l4⟩) | (simp only[World.cell?_drew,d0,d1,d2,d3,d4,l0,l1,l2,l3,l4,and_self]))
  (first
   | (go_at_call 28;((with_reducible refine(KB.out _).mono ?_);rintro e w7 ⟨rfl,hb7⟩;have H7:=Lib.hid (HE.out.beyond hb7);clear hb7 d0 d1 d2 d3 d4 l0 l1 l2 l3 l4;obtain⟨d0,d1,d2,d3,d4,_⟩:=H7.out.kept.box (by decide);obtain⟨l0,l1,l2,l3,l4⟩:=HQ5.out _ H7.out.low))
   | (go_at_call 12;((with_reducible refine(HKy.out _ H7.out.low).mono ?_);rintro e w8 ⟨g8,cap8,rfl,ht8,hb8⟩;have HT8:=Lib.hid ht8;have H8:=Lib.hid (H7.out.beyond hb8);clear ht8 hb8 d0 d1 d2 d3 d4 l0 l1 l2 l3 l4;obtain⟨d0,d1,d2,d3,d4,_⟩:=H8.out.kept.box (by decide);obtain⟨l0,l1,l2,l3,l4⟩:=HQ5.out _ H8.out.low))
   | (refine step_append_lies _ rfl (.tmp 77) (.tmp 85) 27 rfl w.heap.size 38 i0 (.agg #[.int .i64 0,.string ⟨#[]⟩,.int .i64 0,.slice none 0 0,.int .i64 0]) 5 64 Tryz.underlying27 hi0 hz0 hz1 hz2 rfl (by decide) _ (ln+1) (cellsT (tv ((([])++U)++[t]))) rfl H8.out.row ⟨g8,0,none⟩ lv cap8 (cellsT (tv V)) rfl HLV.out (HT8.out.row.cells rfl) (cellsT_okk V) HZV.out (by first | decide | (unfold maxLen;omega)) (by omega) H8.out.tk.size _ rfl ?_;intro g9 cap9 w9 ho hg hat hlt9;have H9:=Lib.hid (H8.out.cat HT8.out HNV.out ho hg (k:=ln+1+lv) rfl);clear ho hg hat hlt9;clear d0 d1 d2 d3 d4 l0 l1 l2 l3 l4;obtain⟨d0,d1,d2,d3,d4,_⟩:=H9.out.kept.box (by decide);obtain⟨l0,l1,l2,l3,l4⟩:=HQ5.out _ H9.out.low))
 go_wp2;go_ret;exact H9.out.post
theorem rtok_bin_shut (op:Bs) (x y:Ex) (hx:RTok x) (hy:RTok y) (hpx:0<(tokP x).length) (hpy:0<(tokP y).length) (m:Nat) (hsh:strong op<m):RTokAt (exBin op x y) m:=by
 intro A c w hm hk hs;have hsz:sizeX (exBin op x y)=1+(sizeX x+sizeX y):=(size_bin op x y).1;have h6:=strong_le op;have hul:=tokX_len x (strong op);have hvl:=tokX_len y (strong op+1);obtain⟨U,hU⟩:∃ U,U=tokX x (strong op):=⟨_,rfl⟩;obtain⟨V,hV⟩:∃ U,U=tokX y (strong op+1):=⟨_,rfl⟩;have HT:Hid (tokX (exBin op x y) m=([]++[tSign [40]])++U++[tSign op]++V++[tSign [41]]):=Lib.hid (by unfold tokX shutT;rw[if_pos (by simpa[exBin,bindsX] using hsh),tok_bin,hU,hV];simp);rw[HT.out];have hposU:0<U.length:=by rw[hU];exact shutT_pos hpx
 have hposV:0<V.length:=by rw[hV];exact shutT_pos hpy
 rw[exBin,KidsX] at hk;obtain⟨ad,rfl,hP,hkl⟩:=hk.resolve_left (by simp);rw[KidsXL,KidsXL] at hkl;obtain⟨⟨A1,c1,h5,hkx⟩,⟨A2,c2,h5',hky⟩,_⟩:=hkl;have e0:ad.add (0 * 5)=ad:=by simp[Addr.add]
 have e1:ad.add ((0+1) * 5)=⟨ad.block,ad.off+5,none⟩:=by simp[Addr.add]
 rw[e0] at h5;rw[e1] at h5'
 have HP5:Hid (∀ W',Below w.heap.size w W'→W'.cell? ad=some (.int .i64 x.kind)∧W'.cell? ⟨ad.block,ad.off+1,none⟩=some (.int .i64 x.n)∧W'.cell? ⟨ad.block,ad.off+2,none⟩=some (.string ⟨x.name.toArray⟩)∧W'.cell? ⟨ad.block,ad.off+3,none⟩=some (.string ⟨x.op.toArray⟩)∧W'.cell? ⟨ad.block,ad.off+4,none⟩=some (.slice A1 x.kids.length c1)):=Lib.hid fun W' hb=>by
  obtain⟨k',n',nm',op',ks'⟩:=x;exact h5.keep (fun p hp=>hb.cell (by rw[hp];exact hP))
 have HQ5:Hid (∀ W',Below w.heap.size w W'→W'.cell? ⟨ad.block,ad.off+5,none⟩=some (.int .i64 y.kind)∧W'.cell? ⟨ad.block,ad.off+5+1,none⟩=some (.int .i64 y.n)∧W'.cell? ⟨ad.block,ad.off+5+2,none⟩=some (.string ⟨y.name.toArray⟩)∧W'.cell? ⟨ad.block,ad.off+5+3,none⟩=some (.string ⟨y.op.toArray⟩)∧W'.cell? ⟨ad.block,ad.off+5+4,none⟩=some (.slice A2 y.kids.length c2)):=Lib.hid fun W' hb=>by
  obtain⟨k',n',nm',op',ks'⟩:=y;exact h5'.keep (fun p hp=>hb.cell (by rw[hp];exact hP))
 obtain⟨st,hst⟩:∃ st,st=strong op:=⟨_,rfl⟩;rw[←hst] at hU hV hul hvl h6 hsh
 have HK:Hid (∀ W,Below w.heap.size w W→Calls Tryz.prog 12 #[.agg #[.int .i64 x.kind,.int .i64 x.n,.string ⟨x.name.toArray⟩,.string ⟨x.op.toArray⟩,.slice A1 x.kids.length c1],.int .i64 st] W (PostTR W U)):=Lib.hid fun W hb=>by
  have:=hx st A1 c1 W (by omega) (hkx.next hb) (by omega);rw[valX_eq] at this;rw[hU];exact this
 have HKy:Hid (∀ W,Below w.heap.size w W→Calls Tryz.prog 12 #[.agg #[.int .i64 y.kind,.int .i64 y.n,.string ⟨y.name.toArray⟩,.string ⟨y.op.toArray⟩,.slice A2 y.kids.length c2],.int .i64 ((st:Int)+1)] W (PostTR W V)):=Lib.hid fun W hb=>by
  have:=hy (st+1) A2 c2 W (by omega) (hky.next hb) (by omega);rw[valX_eq] at this;rw[hV];exact this
 obtain⟨ln,hln⟩:∃ ln,ln=U.length:=⟨_,rfl⟩;have HNU:Hid (U.length=ln):=Lib.hid hln.symm;have HZU:Hid (0<ln):=Lib.hid (by rw[hln];exact hposU);have HLU:Hid ((cellsT (tv U)).length=ln * 5):=Lib.hid (by rw[cellsT_length,tv_len,hln]);obtain⟨lv,hlv⟩:∃ lv,lv=V.length:=⟨_,rfl⟩;have HNV:Hid (V.length=lv):=Lib.hid hlv.symm;have HZV:Hid (0<lv):=Lib.hid (by rw[hlv];exact hposV);have HLV:Hid ((cellsT (tv V)).length=lv * 5):=Lib.hid (by rw[cellsT_length,tv_len,hlv]);have hln9:ln+lv≤900000:=by rw[hln,hU,hlv,hV];omega
 unfold PostTR at HK HKy;rw[←hln] at HK;rw[←hlv] at HKy;have hlt:decide ((st:Int)<(m:Int))=true:=by simp;omega
 have hlt2:decide (st<m)=true:=by simp;omega
 have hwr:IntKind.i64.wrap ((st:Int)+1)=(st:Int)+1:=IntWalk.i64_in _ (by omega);obtain⟨S,hS⟩:∃ S:ByteArray,S=⟨op.toArray⟩:=⟨_,rfl⟩;have HO:=Lib.hid (sk_start w (.cells #[.int .i64 4,.int .i64 0,.string ⟨#[]⟩,.string S,.slice (some ad) 2 c] 24))
 have KB:Hid (∀ W,Calls Tryz.prog 28 #[.agg #[.int .i64 4,.int .i64 0,.string ⟨#[]⟩,.string S,.slice (some ad) 2 c]] W fun e w'=>e= .returned (.int .i64 st)∧Below W.heap.size W w'):=Lib.hid fun W=>by
  have:=bindsX_any (exBin op x y) (some ad) c W;rw[show bindsX (exBin op x y)=st by simp[exBin,bindsX,hst]] at this;rw[hS];exact this
 obtain⟨i0,hi0,hz0,hz1,hz2⟩:=info_parts infoT;obtain⟨t,ht⟩:∃ t,t=tSign op:=⟨_,rfl⟩;have HF:Hid (five t=[.int .i64 4,.string S,.int .i64 0,.slice none 0 0,.int .i64 0]):=Lib.hid (by rw[ht,hS];rfl);have HPT:Hid (t.parts=[]):=Lib.hid (by rw[ht];rfl);rw[←ht];unfold exBin;simp only[valX,List.length_cons,List.length_nil,Nat.zero_add];rw[←hS];clear hk hs hm hsz hul hvl hU hV hposU hposV hP h5 h5' hkx hky e0 e1 hln hlv hst hS ht hx hy hpx hpy hsh;go_enter Tryz.func12,Tryz.ntmps12
 go_wp2_with (first
  | (go_at_call 28;go_must ((with_reducible refine(KB.out _).mono ?_);rintro e w1 ⟨rfl,hb1⟩;have H1:=Lib.hid (HO.out.beyond hb1);obtain⟨d0,d1,d2,d3,d4,_⟩:=H1.out.kept.box (by decide);clear hb1))
  | (at_builtin;refine wpList_append_lies _ rfl (.tmp 12) (.tmp 14) 27 rfl w.heap.size 38 i0 (.agg #[.int .i64 0,.string ⟨#[]⟩,.int .i64 0,.slice none 0 0,.int .i64 0]) 5 64 Tryz.underlying27 hi0 hz0 hz1 hz2 rfl (by decide) _ (0) (cellsT (tv ([]))) rfl (H1.out.beyond (one_boxX _ _)).row ⟨w1.heap.size,0,none⟩ 1 1 [.int .i64 4,.string ⟨#[40]⟩,.int .i64 0,.slice none 0 0,.int .i64 0] rfl rfl (fun j u hu=>new_cells w1 38 #[.int .i64 4,.string ⟨#[40]⟩,.int .i64 0,.slice none 0 0,.int .i64 0] j u hu) (five_ok (tSign [40])) (by decide) (by first | decide | (unfold maxLen;omega)) (by omega) (H1.out.beyond (one_boxX _ _)).tk.size _ rfl ?_;intro g2 cap2 w2 ho hg hat hlt9;have HA:=Lib.hid ((H1.out.beyond (one_boxX _ _)).one (tSign [40]) rfl ho hg rfl rfl);clear ho hg hat hlt9;clear d0 d1 d2 d3 d4;obtain⟨d0,d1,d2,d3,d4,_⟩:=HA.out.kept.box (by decide)))
 have HD:=Lib.hid (HA.out.beyond (Below.refl _ _).drew);obtain⟨l0,l1,l2,l3,l4⟩:=HP5.out _ HA.out.low
 go_region_held3 (fun W'=>W'.cell? ⟨w.heap.size,0,none⟩=some (.int .i64 4)∧W'.cell? ⟨w.heap.size,1,none⟩=some (.int .i64 0)∧W'.cell? ⟨w.heap.size,2,none⟩=some (.string ⟨#[]⟩)∧W'.cell? ⟨w.heap.size,3,none⟩=some (.string S)∧W'.cell? ⟨w.heap.size,4,none⟩=some (.slice (some ad) 2 c)∧W'.cell? ad=some (.int .i64 x.kind)∧W'.cell? ⟨ad.block,ad.off+1,none⟩=some (.int .i64 x.n)∧W'.cell? ⟨ad.block,ad.off+2,none⟩=some (.string ⟨x.name.toArray⟩)∧W'.cell? ⟨ad.block,ad.off+3,none⟩=some (.string ⟨x.op.toArray⟩)∧W'.cell? ⟨ad.block,ad.off+4,none⟩=some (.slice A1 x.kids.length c1))
  (first | (with_reducible exact⟨d0,d1,d2,d3,d4,l0,l1,l2,l3,l4⟩) | (simp only[World.cell?_drew,d0,d1,d2,d3,d4,l0,l1,l2,l3,l4,and_self]))
  (first
   | (go_at_call 28;((with_reducible refine(KB.out _).mono ?_);rintro e w3 ⟨rfl,hb3⟩;have H3:=Lib.hid (HD.out.beyond hb3);clear hb3 d0 d1 d2 d3 d4 l0 l1 l2 l3 l4;obtain⟨d0,d1,d2,d3,d4,_⟩:=H3.out.kept.box (by decide);obtain⟨l0,l1,l2,l3,l4⟩:=HP5.out _ H3.out.low))
   | (go_at_call 12;((with_reducible refine(HK.out _ H3.out.low).mono ?_);rintro e w4 ⟨g4,cap4,rfl,ht4,hb4⟩;have HT4:=Lib.hid ht4;have H4:=Lib.hid (H3.out.beyond hb4);clear ht4 hb4 d0 d1 d2 d3 d4 l0 l1 l2 l3 l4;obtain⟨d0,d1,d2,d3,d4,_⟩:=H4.out.kept.box (by decide);obtain⟨l0,l1,l2,l3,l4⟩:=HP5.out _ H4.out.low))
   | (refine step_append_lies _ rfl (.tmp 62) (.tmp 69) 27 rfl w.heap.size 38 i0 (.agg #[.int .i64 0,.string ⟨#[]⟩,.int .i64 0,.slice none 0 0,.int .i64 0]) 5 64 Tryz.underlying27 hi0 hz0 hz1 hz2 rfl (by decide) _ (1) (cellsT (tv ([]++[tSign [40]]))) rfl H4.out.row ⟨g4,0,none⟩ ln cap4 (cellsT (tv U)) rfl HLU.out (HT4.out.row.cells rfl) (cellsT_okk U) HZU.out (by first | decide | (unfold maxLen;omega)) (by omega) H4.out.tk.size _ rfl ?_;intro g5 cap5 w5 ho hg hat hlt9;have H5:=Lib.hid (H4.out.cat HT4.out HNU.out ho hg (k:=1+ln) rfl);clear ho hg hat hlt9;clear d0 d1 d2 d3 d4 l0 l1 l2 l3 l4;obtain⟨d0,d1,d2,d3,d4,_⟩:=H5.out.kept.box (by decide);obtain⟨l0,l1,l2,l3,l4⟩:=HP5.out _ H5.out.low))
 go_wp2_with (at_builtin;refine wpList_append_lies _ rfl (.tmp 71) (.tmp 75) 27 rfl w.heap.size 38 i0 (.agg #[.int .i64 0,.string ⟨#[]⟩,.int .i64 0,.slice none 0 0,.int .i64 0]) 5 64 Tryz.underlying27 hi0 hz0 hz1 hz2 rfl (by decide) _ (1+ln) (cellsT (tv (([]++[tSign [40]])++U))) rfl (H5.out.beyond (one_boxX _ _)).row ⟨w5.heap.size,0,none⟩ 1 1 [.int .i64 4,.string S,.int .i64 0,.slice none 0 0,.int .i64 0] rfl rfl (fun j u hu=>new_cells w5 38 #[.int .i64 4,.string S,.int .i64 0,.slice none 0 0,.int .i64 0] j u hu) (by rw[←HF.out];exact five_ok t) (by decide) (by first | decide | (unfold maxLen;omega)) (by omega) (H5.out.beyond (one_boxX _ _)).tk.size _ rfl ?_;intro g6 cap6 w6 ho hg hat hlt9;have H6:=Lib.hid ((H5.out.beyond (one_boxX _ _)).one t HPT.out ho hg HF.out.symm rfl);clear ho hg hat hlt9;clear d0 d1 d2 d3 d4 l0 l1 l2 l3 l4;obtain⟨d0,d1,d2,d3,d4,_⟩:=H6.out.kept.box (by decide));have HE:=Lib.hid (H6.out.beyond (Below.refl _ _).drew);obtain⟨l0,l1,l2,l3,l4⟩:=HQ5.out _ H6.out.low
 go_region_held3 (fun W'=>W'.cell? ⟨w.heap.size,0,none⟩=some (.int .i64 4)∧W'.cell? ⟨w.heap.size,1,none⟩=some (.int .i64 0)∧W'.cell? ⟨w.heap.size,2,none⟩=some (.string ⟨#[]⟩)∧W'.cell? ⟨w.heap.size,3,none⟩=some (.string S)∧W'.cell? ⟨w.heap.size,4,none⟩=some (.slice (some ad) 2 c)∧W'.cell? ⟨ad.block,ad.off+5,none⟩=some (.int .i64 y.kind)∧W'.cell? ⟨ad.block,ad.off+5+1,none⟩=some (.int .i64 y.n)∧W'.cell? ⟨ad.block,ad.off+5+2,none⟩=some (.string ⟨y.name.toArray⟩)∧W'.cell? ⟨ad.block,ad.off+5+3,none⟩=some (.string ⟨y.op.toArray⟩)∧W'.cell? ⟨ad.block,ad.off+5+4,none⟩=some (.slice A2 y.kids.length c2))
  (first | (with_reducible exact⟨d0,d1,d2,d3,d4,l0,l1,l2,l3,l4⟩) | (simp only[World.cell?_drew,d0,d1,d2,d3,d4,l0,l1,l2,l3,l4,and_self]))
  (first
   | (go_at_call 28;((with_reducible refine(KB.out _).mono ?_);rintro e w7 ⟨rfl,hb7⟩;have H7:=Lib.hid (HE.out.beyond hb7);clear hb7 d0 d1 d2 d3 d4 l0 l1 l2 l3 l4;obtain⟨d0,d1,d2,d3,d4,_⟩:=H7.out.kept.box (by decide);obtain⟨l0,l1,l2,l3,l4⟩:=HQ5.out _ H7.out.low))
   | (go_at_call 12;((with_reducible refine(HKy.out _ H7.out.low).mono ?_);rintro e w8 ⟨g8,cap8,rfl,ht8,hb8⟩;have HT8:=Lib.hid ht8;have H8:=Lib.hid (H7.out.beyond hb8);clear ht8 hb8 d0 d1 d2 d3 d4 l0 l1 l2 l3 l4;obtain⟨d0,d1,d2,d3,d4,_⟩:=H8.out.kept.box (by decide);obtain⟨l0,l1,l2,l3,l4⟩:=HQ5.out _ H8.out.low))
   | (refine step_append_lies _ rfl (.tmp 77) (.tmp 85) 27 rfl w.heap.size 38 i0 (.agg #[.int .i64 0,.string ⟨#[]⟩,.int .i64 0,.slice none 0 0,.int .i64 0]) 5 64 Tryz.underlying27 hi0 hz0 hz1 hz2 rfl (by decide) _ (1+ln+1) (cellsT (tv ((([]++[tSign [40]])++U)++[t]))) rfl H8.out.row ⟨g8,0,none⟩ lv cap8 (cellsT (tv V)) rfl HLV.out (HT8.out.row.cells rfl) (cellsT_okk V) HZV.out (by first | decide | (unfold maxLen;omega)) (by omega) H8.out.tk.size _ rfl ?_;intro g9 cap9 w9 ho hg hat hlt9;have H9:=Lib.hid (H8.out.cat HT8.out HNV.out ho hg (k:=1+ln+1+lv) rfl);clear ho hg hat hlt9;clear d0 d1 d2 d3 d4 l0 l1 l2 l3 l4;obtain⟨d0,d1,d2,d3,d4,_⟩:=H9.out.kept.box (by decide);obtain⟨l0,l1,l2,l3,l4⟩:=HQ5.out _ H9.out.low))
 go_wp2_with (at_builtin;refine wpList_append_lies _ rfl (.tmp 88) (.tmp 90) 27 rfl w.heap.size 38 i0 (.agg #[.int .i64 0,.string ⟨#[]⟩,.int .i64 0,.slice none 0 0,.int .i64 0]) 5 64 Tryz.underlying27 hi0 hz0 hz1 hz2 rfl (by decide) _ (1+ln+1+lv) (cellsT (tv (((([]++[tSign [40]])++U)++[t])++V))) rfl (H9.out.beyond (one_boxX _ _)).row ⟨w9.heap.size,0,none⟩ 1 1 [.int .i64 4,.string ⟨#[41]⟩,.int .i64 0,.slice none 0 0,.int .i64 0] rfl rfl (fun j u hu=>new_cells w9 38 #[.int .i64 4,.string ⟨#[41]⟩,.int .i64 0,.slice none 0 0,.int .i64 0] j u hu) (five_ok (tSign [41])) (by decide) (by first | decide | (unfold maxLen;omega)) (by omega) (H9.out.beyond (one_boxX _ _)).tk.size _ rfl ?_;intro g10 cap10 w10 ho hg hat hlt9;have H10:=Lib.hid ((H9.out.beyond (one_boxX _ _)).one (tSign [41]) rfl ho hg rfl rfl);clear ho hg hat hlt9);go_ret;exact H10.out.post
theorem tokP_pos {e:Ex} {d:Nat} (h:mayX e d=true):0<(tokP e).length:=by
 rcases mayX_cases h with ⟨n',e,_⟩ | ⟨w,e,hw⟩ | ⟨x,e,_,hx⟩ | ⟨x,e,_,hx⟩ | ⟨op',x,y,e,h1,_,hx,hy⟩
 ·rw[e,tok_num];simp
 ·rw[e,tok_var];simp
 ·rw[e,tok_neg];simp
 ·rw[e,tok_not];simp
 ·rw[e,tok_bin,List.length_append,List.length_cons];omega
theorem rtok_any:∀ (e:Ex) (d:Nat),mayX e d=true→RTok e:=by
 intro e
 induction e using Ex.ind with
 | h k n nm op ks ih=>
   intro d hm
   rcases mayX_cases hm with ⟨n',e,_⟩ | ⟨w,e,hw⟩ | ⟨x,e,_,hx⟩ | ⟨x,e,_,hx⟩ | ⟨op',x,y,e,h1,_,hx,hy⟩
   ·rw[e];exact rtok_num n'
   ·rw[e];exact rtok_var w
   ·have hin:x∈ks:=by simp only[exNeg,Ex.mk.injEq] at e;rw[e.2.2.2.2];simp
    rw[e];exact rtok_neg x (ih x hin _ hx) (tokP_pos hx)
   ·have hin:x∈ks:=by simp only[exNot,Ex.mk.injEq] at e;rw[e.2.2.2.2];simp
    rw[e];exact rtok_not x (ih x hin _ hx) (tokP_pos hx)
   ·have hin:x∈ks∧y∈ks:=by simp only[exBin,Ex.mk.injEq] at e;rw[e.2.2.2.2];simp
    rw[e];intro m;by_cases c:strong op'<m
    ·exact rtok_bin_shut op' x y (ih x hin.1 _ hx) (ih y hin.2 _ hy) (tokP_pos hx) (tokP_pos hy) m c
    ·exact rtok_bin_open op' x y (ih x hin.1 _ hx) (ih y hin.2 _ hy) (tokP_pos hx) (tokP_pos hy) m c
theorem tokP_shape:∀ (e:Ex) (d:Nat),mayX e d=true→NumX e→∀ t∈tokP e,(∃ w,t=tSign w∧w.length≤2)∨(∃ z,t=tNum z∧okN z)∨∃ w,t=tVar w∧w.length≤8:=by
 intro e
 induction e using Ex.ind with
 | h k n nm op ks ih=>
   intro d hm hn
   have hx:∀ x d' m',mayX x d'=true→x∈ks→∀ t∈tokX x m',(∃ w,t=tSign w∧w.length≤2)∨(∃ z,t=tNum z∧okN z)∨∃ w,t=tVar w∧w.length≤8:=fun x d' m' h1 h2 t ht=>by
    have hk:=ih x h2 d' h1 ((numX_kids hn).2 x h2);unfold tokX shutT at ht
    split at ht
    ·rcases List.mem_cons.1 ht with rfl | ht
     ·exact .inl ⟨_,rfl,by decide⟩
     ·rcases List.mem_append.1 ht with ht | ht
      ·exact hk t ht
      ·rw[List.mem_singleton] at ht;subst ht;exact .inl ⟨_,rfl,by decide⟩
    ·exact hk t ht
   have hnum:=(numX_kids hn).1
   rcases mayX_cases hm with ⟨n',e,h0⟩ | ⟨w,e,hw⟩ | ⟨x,e,_,h1⟩ | ⟨x,e,_,h1⟩ | ⟨op',x,y,e,h1,_,h2,h3⟩
   ·rw[e,tok_num]
    intro t ht;rw[List.mem_singleton] at ht;subst ht;have:n=n':=by simp only[exNum,Ex.mk.injEq] at e;exact e.2.1
    exact .inr (.inl ⟨_,rfl,by rw[←show (Ex.mk k n nm op ks).n=n' from this];exact hnum⟩)
   ·rw[e,tok_var]
    intro t ht;rw[List.mem_singleton] at ht;subst ht;exact .inr (.inr ⟨_,rfl,name_len8 hw⟩)
   ·have hin:x∈ks:=by simp only[exNeg,Ex.mk.injEq] at e;rw[e.2.2.2.2];simp
    rw[e,tok_neg];intro t ht
    rcases List.mem_cons.1 ht with rfl | ht
    ·exact .inl ⟨_,rfl,by decide⟩
    ·exact hx x _ 7 h1 hin t ht
   ·have hin:x∈ks:=by simp only[exNot,Ex.mk.injEq] at e;rw[e.2.2.2.2];simp
    rw[e,tok_not];intro t ht
    rcases List.mem_cons.1 ht with rfl | ht
    ·exact .inl ⟨_,rfl,by decide⟩
    ·exact hx x _ 7 h1 hin t ht
   ·have hin:x∈ks∧y∈ks:=by simp only[exBin,Ex.mk.injEq] at e;rw[e.2.2.2.2];simp
    rw[e,tok_bin];intro t ht
    rcases List.mem_append.1 ht with ht | ht
    ·exact hx x _ _ h2 hin.1 t ht
    ·rcases List.mem_cons.1 ht with rfl | ht
     ·exact .inl ⟨_,rfl,strong_len h1⟩
     ·exact hx y _ _ h3 hin.2 t ht
theorem tokP_cand {e:Ex} {d:Nat} (hm:mayX e d=true) (hn:NumX e):∀ t∈tokP e,(candT t).length≤2000:=by
 intro t ht
 rcases tokP_shape e d hm hn t ht with ⟨w,rfl,h⟩ | ⟨z,rfl,h⟩ | ⟨w,rfl,h⟩
 ·unfold candT tSign;simp;omega
 ·have:=Lib.itoa_length_le z h.1 h.2
  unfold candT tNum;simp;split <;> first | omega | simp
 ·unfold candT tVar;simp;omega
theorem tokX_zero (e:Ex):tokX e 0=tokP e:=by unfold tokX shutT;rw[if_neg (by omega)]
theorem eback_big (r:Ex) (A:Option Addr) (c:Nat) (w:World) (hk:KidsX (LtX w.heap.size) w A r) (hx:¬ 0≤cntX r 100) (hG:Given w):
  Calls Tryz.prog 3 #[valX r A c] w fun e w'=>e= .returned (.bool true)∧Below w.heap.size w w':=by
 have KA:Hid (∀ W,Below w.heap.size w W→Calls Tryz.prog 6 #[] W fun e w'=>e= .returned (.bool true)∧Below W.heap.size W w'):=Lib.hid fun W hb=>awakeX_any W (hG.below hb)
 have K8:=Lib.hid (small_cX r A c 100 100 rfl w hk (by omega) false (decide_eq_false hx));have HX0:=Lib.hid (Box5.new w 24 (.int .i64 r.kind) (.int .i64 r.n) (.string ⟨r.name.toArray⟩) (.string ⟨r.op.toArray⟩) (.slice A r.kids.length c));rw[valX_eq];clear hk hx hG;go_enter Tryz.func3,Tryz.ntmps3
 go_wp2_with (first
  | (go_at_call 6;go_must ((with_reducible refine(KA.out _ (one_boxX w _)).mono ?_);rintro _ w1 ⟨rfl,hb1⟩;have B1:=Lib.hid (bstepX (one_boxX w (objX r A c)) hb1);have X1:=Lib.hid (HX0.out.low hb1);obtain⟨x0,x1,x2,x3,x4,_⟩:=X1.out;clear hb1))
  | (go_at_call 7;((with_reducible refine(K8.out _ B1.out).mono ?_);rintro _ w2 ⟨rfl,hb2⟩;have B2:=Lib.hid (bstepX B1.out hb2);clear hb2)))
 go_ret;exact⟨rfl,B2.out⟩
theorem eback_not (r:Ex) (A:Option Addr) (c:Nat) (w:World) (hk:KidsX (LtX w.heap.size) w A r) (hx:0≤cntX r 100) (hm:mayX r 0=false) (hG:Given w):
  Calls Tryz.prog 3 #[valX r A c] w fun e w'=>e= .returned (.bool true)∧Below w.heap.size w w':=by
 obtain⟨hx1,hx2⟩:=cntX_sz r 100 hx;have KA:Hid (∀ W,Below w.heap.size w W→Calls Tryz.prog 6 #[] W fun e w'=>e= .returned (.bool true)∧Below W.heap.size W w'):=Lib.hid fun W hb=>awakeX_any W (hG.below hb)
 have K8:=Lib.hid (small_cX r A c 100 100 rfl w hk (by omega) true (decide_eq_true hx))
 have KT:Hid (∀ W,Below w.heap.size w W→Calls Tryz.prog 8 #[aggX r A c] W fun e w'=>e= .returned (.tuple #[.slice none 0 0,.int .i64 5])∧Below W.heap.size W w'):=Lib.hid fun W hb=>by
  have:=ctok_no r A c W (hk.next hb) (by omega) (by omega) hm;rw[valX_eq] at this;exact this
 have KP:Hid (∀ W,Below w.heap.size w W→Calls Tryz.prog 9 #[aggX r A c] W fun e w'=>e= .returned (.tuple #[.string ⟨#[]⟩,.int .i64 5])∧Below W.heap.size W w'):=Lib.hid fun W hb=>by
  have:=cprint_no r A c W (hk.next hb) (by omega) (by omega) hm;rw[valX_eq] at this;exact this
 have KR:=Lib.hid (rmay_cX r A c w hk (by omega));have KM:=Lib.hid (cmay_cX r A c w hk (by omega) (by omega));rw[hm] at KR KM;have HX0:=Lib.hid (Box5.new w 24 (.int .i64 r.kind) (.int .i64 r.n) (.string ⟨r.name.toArray⟩) (.string ⟨r.op.toArray⟩) (.slice A r.kids.length c));rw[valX_eq];clear hk hx hG hm hx1 hx2;go_enter Tryz.func3,Tryz.ntmps3
 go_wp2_with (first
  | (go_at_call 6;go_must ((with_reducible refine(KA.out _ (one_boxX w _)).mono ?_);rintro _ w1 ⟨rfl,hb1⟩;have B1:=Lib.hid (bstepX (one_boxX w (objX r A c)) hb1);have X1:=Lib.hid (HX0.out.low hb1);obtain⟨x0,x1,x2,x3,x4,_⟩:=X1.out;clear hb1))
  | (go_at_call 7;go_must ((with_reducible refine(K8.out _ B1.out).mono ?_);rintro _ w2 ⟨rfl,hb2⟩;have B2:=Lib.hid (bstepX B1.out hb2);have X2:=Lib.hid (X1.out.low hb2);clear hb2 x0 x1 x2 x3 x4;obtain⟨x0,x1,x2,x3,x4,_⟩:=X2.out))
  | (go_at_call 8;go_must ((with_reducible refine(KT.out _ B2.out).mono ?_);rintro _ w3 ⟨rfl,hb3⟩;have B3:=Lib.hid (bstepX B2.out hb3);have X3:=Lib.hid (X2.out.low hb3);clear hb3 x0 x1 x2 x3 x4;obtain⟨x0,x1,x2,x3,x4,_⟩:=X3.out))
  | (go_at_call 9;go_must ((with_reducible refine(KP.out _ B3.out).mono ?_);rintro _ w4 ⟨rfl,hb4⟩;have B4:=Lib.hid (bstepX B3.out hb4);have X4:=Lib.hid (X3.out.low hb4);clear hb4 x0 x1 x2 x3 x4;obtain⟨x0,x1,x2,x3,x4,_⟩:=X4.out))
  | (go_at_call 10;go_must ((with_reducible refine(KR.out _ B4.out).mono ?_);rintro _ w5 ⟨rfl,hb5⟩;have B5:=Lib.hid (bstepX B4.out hb5);have X5:=Lib.hid (X4.out.low hb5);clear hb5 x0 x1 x2 x3 x4;obtain⟨x0,x1,x2,x3,x4,_⟩:=X5.out))
  | (go_at_call 11;go_must ((with_reducible refine(KM.out _ B5.out).mono ?_);rintro _ w6 ⟨rfl,hb6⟩;have B6:=Lib.hid (bstepX B5.out hb6);clear hb6)))
 go_ret;exact⟨rfl,B6.out⟩
structure BackK (w:World) (r:Ex) (A:Option Addr) (c:Nat) (T:List Tok) (n:Nat) (S:ByteArray) (h:Int):Prop where
 ka:∀ W,Below w.heap.size w W→Calls Tryz.prog 6 #[] W fun e w'=>e= .returned (.bool true)∧Below W.heap.size W w'
 k8:BoolX 7 #[aggX r A c,.int .i64 100] true w
 kt:∀ W,Below w.heap.size w W→Calls Tryz.prog 8 #[aggX r A c] W fun e w'=>∃ A c,e= .returned (.tuple #[.slice A n c,.int .i64 0])∧RdT w'.heap.size w' A n T∧Below W.heap.size W w'
 kp:∀ W,Below w.heap.size w W→Calls Tryz.prog 9 #[aggX r A c] W fun e w'=>e= .returned (.tuple #[.string S,.int .i64 h])∧Below W.heap.size W w'
 kr:BoolX 10 #[aggX r A c,.int .i64 0] true w
 km:BoolX 11 #[aggX r A c] true w
 kq:∀ W,Below w.heap.size w W→Calls Tryz.prog 12 #[aggX r A c,.int .i64 0] W fun e w'=>∃ A c,e= .returned (.slice A n c)∧RdT w'.heap.size w' A n T∧Below W.heap.size W w'
 kj:∀ W A c,RdT W.heap.size W A n T→Calls Tryz.prog 14 #[.slice A n c] W fun e w'=>e= .returned (.tuple #[.string S,.int .i64 h])∧Below W.heap.size W w'
 hn:n=T.length
 hpt:∀ t∈T,t.parts.length≤1000000
 kids:KidsX (LtX w.heap.size) w A r
 n9:n≤1000000
theorem eback_deep (r:Ex) (A:Option Addr) (c:Nat) (w:World) (T:List Tok) (n:Nat) (S:ByteArray) (h:Int) (H:BackK w r A c T n S h) (hG:Given w) (j:Nat)
  (P1:∀ A c W,RdT W.heap.size W A n T→Given W→Calls Tryz.prog 15 #[.slice A n c,.int .i64 0] W (PostPX W (.bad j 8))) (P2:∀ A c W,RdT W.heap.size W A n T→Calls Tryz.prog 16 #[.slice A n c,.int .i64 0] W (PostPX W (.bad j 8))):
  Calls Tryz.prog 3 #[valX r A c] w fun e w'=>e= .returned (.bool true)∧Below w.heap.size w w':=by
 have n9:=H.n9;have H:=Lib.hid H;have HG:=Lib.hid hG;have K1:Hid (∀ A c W,RdT W.heap.size W A n T→Given W→Calls Tryz.prog 15 #[.slice A n c,.int .i64 0] W fun e w'=>e= .returned (.tuple #[.agg #[.int .i64 0,.int .i64 0,.string ⟨#[]⟩,.string ⟨#[]⟩,.slice none 0 0],.int .i64 j,.int .i64 8])∧Below W.heap.size W w'):=Lib.hid fun A c W h1 h2=>(P1 A c W h1 h2).mono fun e w' h=>⟨h.2,h.1⟩
 have K2:Hid (∀ A c W,RdT W.heap.size W A n T→Calls Tryz.prog 16 #[.slice A n c,.int .i64 0] W fun e w'=>e= .returned (.tuple #[.agg #[.int .i64 0,.int .i64 0,.string ⟨#[]⟩,.string ⟨#[]⟩,.slice none 0 0],.int .i64 j,.int .i64 8])∧Below W.heap.size W w'):=Lib.hid fun A c W h1=>(P2 A c W h1).mono fun e w' h=>⟨h.2,h.1⟩
 have HX0:=Lib.hid (Box5.new w 24 (.int .i64 r.kind) (.int .i64 r.n) (.string ⟨r.name.toArray⟩) (.string ⟨r.op.toArray⟩) (.slice A r.kids.length c));rw[valX_eq];clear hG P1 P2;go_enter Tryz.func3,Tryz.ntmps3
 go_wp2_with (first
  | (go_at_call 6;go_must ((with_reducible refine(H.out.ka _ (one_boxX w _)).mono ?_);rintro _ w1 ⟨rfl,hb1⟩;have B1:=Lib.hid (bstepX (one_boxX w (objX r A c)) hb1);have X1:=Lib.hid (HX0.out.low hb1);obtain⟨x0,x1,x2,x3,x4,_⟩:=X1.out;clear hb1))
  | (go_at_call 7;go_must ((with_reducible refine(H.out.k8 _ B1.out).mono ?_);rintro _ w2 ⟨rfl,hb2⟩;have B2:=Lib.hid (bstepX B1.out hb2);have X2:=Lib.hid (X1.out.low hb2);clear hb2 x0 x1 x2 x3 x4;obtain⟨x0,x1,x2,x3,x4,_⟩:=X2.out))
  | (go_at_call 8;go_must ((with_reducible refine(H.out.kt _ B2.out).mono ?_);rintro _ w3 ⟨A3,c3,rfl,hr3,hb3⟩;have R3:=Lib.hid hr3;have B3:=Lib.hid (bstepX B2.out hb3);have X3:=Lib.hid (X2.out.low hb3);clear hr3 hb3 x0 x1 x2 x3 x4;obtain⟨x0,x1,x2,x3,x4,_⟩:=X3.out))
  | (go_at_call 9;go_must ((with_reducible refine(H.out.kp _ B3.out).mono ?_);rintro _ w4 ⟨rfl,hb4⟩;have R4:=Lib.hid (R3.out.next hb4);have B4:=Lib.hid (bstepX B3.out hb4);have X4:=Lib.hid (X3.out.low hb4);clear hb4 x0 x1 x2 x3 x4;obtain⟨x0,x1,x2,x3,x4,_⟩:=X4.out))
  | (go_at_call 10;go_must ((with_reducible refine(H.out.kr _ B4.out).mono ?_);rintro _ w5 ⟨rfl,hb5⟩;have R5:=Lib.hid (R4.out.next hb5);have B5:=Lib.hid (bstepX B4.out hb5);have X5:=Lib.hid (X4.out.low hb5);clear hb5 x0 x1 x2 x3 x4;obtain⟨x0,x1,x2,x3,x4,_⟩:=X5.out))
  | (go_at_call 12;go_must ((with_reducible refine(H.out.kq _ B5.out).mono ?_);rintro _ w6 ⟨A6,c6,rfl,hr6,hb6⟩;have Q6:=Lib.hid hr6;have R6:=Lib.hid (R5.out.next hb6);have B6:=Lib.hid (bstepX B5.out hb6);have X6:=Lib.hid (X5.out.low hb6);clear hr6 hb6 x0 x1 x2 x3 x4;obtain⟨x0,x1,x2,x3,x4,_⟩:=X6.out))
  | (go_at_call 11;go_must ((with_reducible refine(H.out.km _ B6.out).mono ?_);rintro _ w7 ⟨rfl,hb7⟩;have Q7:=Lib.hid (Q6.out.next hb7);have R7:=Lib.hid (R6.out.next hb7);have B7:=Lib.hid (bstepX B6.out hb7);have X7:=Lib.hid (X6.out.low hb7);clear hb7 x0 x1 x2 x3 x4)))
 go_loopw [73] (fun i wr=>∃ k:Nat,k≤n∧i= .int .i64 k∧Hid (Below w7.heap.size w7 wr)) (fun i _=>n - (intOf i).toNat)
 case atStart=>exact⟨0,by omega,rfl,Lib.hid (Below.refl _ _)⟩
 case round=>
  obtain⟨k,hk,rfl,HB⟩:=hrel;by_cases a:k<n
  ·obtain⟨t,ht⟩:∃ t,T[k]?=some t:=⟨_,List.getElem?_eq_getElem (by have:=H.out.hn;omega)⟩
   obtain⟨ad,A1,c1,rfl,hx,hrx⟩:=(R7.out.next HB.out).at_ ht
   obtain⟨ad',A2,c2,rfl,hy,hry⟩:=(Q7.out.next HB.out).at_ ht
   have K:∀ x:Bw wr,Calls Tryz.prog 13 #[tokA t A1 c1,tokA t A2 c2] x.at fun e w'=>e= .returned (.bool true)∧Below x.at.heap.size x.at w':=fun x=>by
    have:=tsame_any t t A1 A2 c1 c2 x.at (hrx.onto x.2) (hry.onto x.2) (H.out.hpt t (List.mem_of_getElem? ht));rw[eqT_self] at this;exact this
   unfold tokA at K;obtain⟨x0,x1,x2,x3,x4⟩:=hx;obtain⟨y0,y1,y2,y3,y4⟩:=hy;obtain⟨W,hW⟩:∃ W:ByteArray,W=⟨t.word.toArray⟩:=⟨_,rfl⟩;obtain⟨m,hm⟩:∃ m,m=t.parts.length:=⟨_,rfl⟩;rw[←hW] at x1 y1 K;rw[←hm] at x3 y3 K;have p0:=bw_cell x0;have p1:=bw_cell x1;have p2:=bw_cell x2;have p3:=bw_cell x3;have p4:=bw_cell x4;have q0:=bw_cell y0;have q1:=bw_cell y1;have q2:=bw_cell y2;have q3:=bw_cell y3;have q4:=bw_cell y4;have HK:=Lib.hid K;clear K hrx hry ht hW hm;go_wp2;have hne:=bw_some wr;refine wp_region_below (by kernel_rfl) (by kernel_rfl) ?_
   repeat (go_big_quiet_step ((go_at_call 13;with_reducible exact bw_calls (HK.out _))))
   refine wpQuiet_nil ?_;intro w8 hw8;obtain⟨m8,rfl⟩:=hw8;obtain⟨w9,hw9⟩:∃ x,x=m8.at:=⟨_,rfl⟩;have HB3:Hid (Below wr.heap.size wr w9):=Lib.hid (by rw[hw9];exact m8.2);rw[←hw9];clear hw9;go_wp2
   go_roundw
   case rel=>exact⟨k+1,by omega,by go_num,Lib.hid (bstepX HB.out HB3.out)⟩
   case measure=>simp[intOf];omega
  ·have B8:=Lib.hid (bstepX B7.out HB.out)
   have R8:=Lib.hid (R7.out.next HB.out);have Q8:=Lib.hid (Q7.out.next HB.out);have X8:=Lib.hid (X7.out.low HB.out);obtain⟨x0,x1,x2,x3,x4,_⟩:=X8.out
   go_wp2_with (first
    | (go_at_call 14;go_must ((with_reducible refine(H.out.kj _ _ _ Q8.out).mono ?_);rintro _ w10 ⟨rfl,hb10⟩;have R10:=Lib.hid (R8.out.next hb10);have B10:=Lib.hid (bstepX B8.out hb10);clear hb10 x0 x1 x2 x3 x4))
    | (go_at_call 15;go_must ((with_reducible refine(K1.out _ _ _ R10.out (HG.out.below B10.out)).mono ?_);rintro _ w11 ⟨rfl,hb11⟩;have R11:=Lib.hid ((R10.out.next hb11).next (one_boxX w11 zeroX));have B11:=Lib.hid (bstepX (bstepX B10.out hb11) (one_boxX w11 zeroX));clear hb11))
    | (go_at_call 16;go_must ((with_reducible refine(K2.out _ _ _ R11.out).mono ?_);rintro _ w12 ⟨rfl,hb12⟩;have B12:=Lib.hid (bstepX (bstepX B11.out hb12) (one_boxX w12 zeroX));clear hb12)))
   go_ret;exact⟨rfl,B12.out⟩
theorem eback_ok (r:Ex) (A:Option Addr) (c:Nat) (w:World) (T:List Tok) (n:Nat) (S:ByteArray) (h:Int) (H:BackK w r A c T n S h) (hG:Given w) (hr:sizeX r≤1000000)
  (P1:∀ A c W,RdT W.heap.size W A n T→Given W→Calls Tryz.prog 15 #[.slice A n c,.int .i64 0] W (PostPX W (.ok r n))):
  Calls Tryz.prog 3 #[valX r A c] w fun e w'=>e= .returned (.bool true)∧Below w.heap.size w w':=by
 have n9:=H.n9;have H:=Lib.hid H;have HG:=Lib.hid hG;have K1:Hid (∀ A c W,RdT W.heap.size W A n T→Given W→Calls Tryz.prog 15 #[.slice A n c,.int .i64 0] W fun e w'=>(∃ A c,e= .returned (.tuple #[aggX r A c,.int .i64 n,.int .i64 0])∧KidsX (LtX w'.heap.size) w' A r)∧Below W.heap.size W w'):=Lib.hid fun A c W h1 h2=>(P1 A c W h1 h2).mono fun e w' h=>⟨h.2,h.1⟩
 have KE:Hid (∀ B d W,KidsX (LtX W.heap.size) W B r→Below w.heap.size w W→Calls Tryz.prog 17 #[aggX r B d,aggX r A c] W fun e w'=>e= .returned (.bool true)∧Below W.heap.size W w'):=Lib.hid fun B d W h1 h2=>by
  have:=rsame_cX r r B A d c W h1 (H.out.kids.next h2) hr hr W (Below.refl _ _);rw[eqB_self] at this;exact this
 have HX0:=Lib.hid (Box5.new w 24 (.int .i64 r.kind) (.int .i64 r.n) (.string ⟨r.name.toArray⟩) (.string ⟨r.op.toArray⟩) (.slice A r.kids.length c));rw[valX_eq];clear hG P1 hr;go_enter Tryz.func3,Tryz.ntmps3
 go_wp2_with (first
  | (go_at_call 6;go_must ((with_reducible refine(H.out.ka _ (one_boxX w _)).mono ?_);rintro _ w1 ⟨rfl,hb1⟩;have B1:=Lib.hid (bstepX (one_boxX w (objX r A c)) hb1);have X1:=Lib.hid (HX0.out.low hb1);obtain⟨x0,x1,x2,x3,x4,_⟩:=X1.out;clear hb1))
  | (go_at_call 7;go_must ((with_reducible refine(H.out.k8 _ B1.out).mono ?_);rintro _ w2 ⟨rfl,hb2⟩;have B2:=Lib.hid (bstepX B1.out hb2);have X2:=Lib.hid (X1.out.low hb2);clear hb2 x0 x1 x2 x3 x4;obtain⟨x0,x1,x2,x3,x4,_⟩:=X2.out))
  | (go_at_call 8;go_must ((with_reducible refine(H.out.kt _ B2.out).mono ?_);rintro _ w3 ⟨A3,c3,rfl,hr3,hb3⟩;have R3:=Lib.hid hr3;have B3:=Lib.hid (bstepX B2.out hb3);have X3:=Lib.hid (X2.out.low hb3);clear hr3 hb3 x0 x1 x2 x3 x4;obtain⟨x0,x1,x2,x3,x4,_⟩:=X3.out))
  | (go_at_call 9;go_must ((with_reducible refine(H.out.kp _ B3.out).mono ?_);rintro _ w4 ⟨rfl,hb4⟩;have R4:=Lib.hid (R3.out.next hb4);have B4:=Lib.hid (bstepX B3.out hb4);have X4:=Lib.hid (X3.out.low hb4);clear hb4 x0 x1 x2 x3 x4;obtain⟨x0,x1,x2,x3,x4,_⟩:=X4.out))
  | (go_at_call 10;go_must ((with_reducible refine(H.out.kr _ B4.out).mono ?_);rintro _ w5 ⟨rfl,hb5⟩;have R5:=Lib.hid (R4.out.next hb5);have B5:=Lib.hid (bstepX B4.out hb5);have X5:=Lib.hid (X4.out.low hb5);clear hb5 x0 x1 x2 x3 x4;obtain⟨x0,x1,x2,x3,x4,_⟩:=X5.out))
  | (go_at_call 12;go_must ((with_reducible refine(H.out.kq _ B5.out).mono ?_);rintro _ w6 ⟨A6,c6,rfl,hr6,hb6⟩;have Q6:=Lib.hid hr6;have R6:=Lib.hid (R5.out.next hb6);have B6:=Lib.hid (bstepX B5.out hb6);have X6:=Lib.hid (X5.out.low hb6);clear hr6 hb6 x0 x1 x2 x3 x4;obtain⟨x0,x1,x2,x3,x4,_⟩:=X6.out))
  | (go_at_call 11;go_must ((with_reducible refine(H.out.km _ B6.out).mono ?_);rintro _ w7 ⟨rfl,hb7⟩;have Q7:=Lib.hid (Q6.out.next hb7);have R7:=Lib.hid (R6.out.next hb7);have B7:=Lib.hid (bstepX B6.out hb7);have X7:=Lib.hid (X6.out.low hb7);clear hb7 x0 x1 x2 x3 x4)))
 go_loopw [73] (fun i wr=>∃ k:Nat,k≤n∧i= .int .i64 k∧Hid (Below w7.heap.size w7 wr)) (fun i _=>n - (intOf i).toNat)
 case atStart=>exact⟨0,by omega,rfl,Lib.hid (Below.refl _ _)⟩
 case round=>
  obtain⟨k,hk,rfl,HB⟩:=hrel;by_cases a:k<n
  ·obtain⟨t,ht⟩:∃ t,T[k]?=some t:=⟨_,List.getElem?_eq_getElem (by have:=H.out.hn;omega)⟩
   obtain⟨ad,A1,c1,rfl,hx,hrx⟩:=(R7.out.next HB.out).at_ ht
   obtain⟨ad',A2,c2,rfl,hy,hry⟩:=(Q7.out.next HB.out).at_ ht
   have K:∀ x:Bw wr,Calls Tryz.prog 13 #[tokA t A1 c1,tokA t A2 c2] x.at fun e w'=>e= .returned (.bool true)∧Below x.at.heap.size x.at w':=fun x=>by
    have:=tsame_any t t A1 A2 c1 c2 x.at (hrx.onto x.2) (hry.onto x.2) (H.out.hpt t (List.mem_of_getElem? ht));rw[eqT_self] at this;exact this
   unfold tokA at K;obtain⟨x0,x1,x2,x3,x4⟩:=hx;obtain⟨y0,y1,y2,y3,y4⟩:=hy;obtain⟨W,hW⟩:∃ W:ByteArray,W=⟨t.word.toArray⟩:=⟨_,rfl⟩;obtain⟨m,hm⟩:∃ m,m=t.parts.length:=⟨_,rfl⟩;rw[←hW] at x1 y1 K;rw[←hm] at x3 y3 K;have p0:=bw_cell x0;have p1:=bw_cell x1;have p2:=bw_cell x2;have p3:=bw_cell x3;have p4:=bw_cell x4;have q0:=bw_cell y0;have q1:=bw_cell y1;have q2:=bw_cell y2;have q3:=bw_cell y3;have q4:=bw_cell y4;have HK:=Lib.hid K;clear K hrx hry ht hW hm;go_wp2;have hne:=bw_some wr;refine wp_region_below (by kernel_rfl) (by kernel_rfl) ?_
   repeat (go_big_quiet_step ((go_at_call 13;with_reducible exact bw_calls (HK.out _))))
   refine wpQuiet_nil ?_;intro w8 hw8;obtain⟨m8,rfl⟩:=hw8;obtain⟨w9,hw9⟩:∃ x,x=m8.at:=⟨_,rfl⟩;have HB3:Hid (Below wr.heap.size wr w9):=Lib.hid (by rw[hw9];exact m8.2);rw[←hw9];clear hw9;go_wp2
   go_roundw
   case rel=>exact⟨k+1,by omega,by go_num,Lib.hid (bstepX HB.out HB3.out)⟩
   case measure=>simp[intOf];omega
  ·have B8:=Lib.hid (bstepX B7.out HB.out)
   have R8:=Lib.hid (R7.out.next HB.out);have Q8:=Lib.hid (Q7.out.next HB.out);have X8:=Lib.hid (X7.out.low HB.out);obtain⟨x0,x1,x2,x3,x4,_⟩:=X8.out
   go_wp2_with (first
    | (go_at_call 14;go_must ((with_reducible refine(H.out.kj _ _ _ Q8.out).mono ?_);rintro _ w10 ⟨rfl,hb10⟩;have R10:=Lib.hid (R8.out.next hb10);have B10:=Lib.hid (bstepX B8.out hb10);have X10:=Lib.hid (X8.out.low hb10);clear hb10 x0 x1 x2 x3 x4))
    | (go_at_call 15;go_must ((with_reducible refine(K1.out _ _ _ R10.out (HG.out.below B10.out)).mono ?_);rintro _ w11 ⟨⟨A11,c11,rfl,hk11⟩,hb11⟩;have HK11:=Lib.hid (hk11.next (one_boxX w11 (objX r A11 c11)));have B11:=Lib.hid (bstepX (bstepX B10.out hb11) (one_boxX w11 (objX r A11 c11)));have hq11:=Lib.hid ((X10.out.low hb11).low (one_boxX w11 (objX r A11 c11)));obtain⟨x0,x1,x2,x3,x4,_⟩:=(X10.out.low hb11).low (one_boxX w11 (objX r A11 c11));obtain⟨y0,y1,y2,y3,y4,_⟩:=Box5.new w11 24 (.int .i64 r.kind) (.int .i64 r.n) (.string ⟨r.name.toArray⟩) (.string ⟨r.op.toArray⟩) (.slice A11 r.kids.length c11);clear hk11 hb11))
    | (go_at_call 17;go_must ((with_reducible refine(KE.out _ _ _ HK11.out B11.out).mono ?_);rintro _ w12 ⟨rfl,hb12⟩;have B12:=Lib.hid (bstepX B11.out hb12);clear hb12)))
   go_ret;exact⟨rfl,B12.out⟩
theorem walk_eback (r:Ex) (A:Option Addr) (c:Nat) (w:World) (hk:KidsX (LtX w.heap.size) w A r) (hnum:NumX r) (hG:Given w):
  Calls Tryz.prog 3 #[valX r A c] w fun e w'=>e= .returned (.bool true)∧Below w.heap.size w w':=by
 by_cases hx:0≤cntX r 100
 case neg=>exact eback_big r A c w hk hx hG
 cases hm:mayX r 0 with
 | false=>exact eback_not r A c w hk hx hm hG
 | true=>
   obtain⟨hx1,hx2⟩:=cntX_sz r 100 hx;have hf:=tokP_fitl hm hnum (by omega);have hc:=tokP_cand hm hnum;have hl:=tokP_len r
   have H:BackK w r A c (tokP r) (tokP r).length (joinB (tokP r)) (joinE (tokP r)):=
    ⟨fun W hb=>awakeX_any W (hG.below hb),
     small_cX r A c 100 100 rfl w hk (by omega) true (decide_eq_true hx),
     (fun W hb=>by
      have:=ctok_yes r A c W (hk.next hb) (by omega) (by omega) hm;rw[valX_eq] at this;exact this),
     (fun W hb=>by
      have:=cprint_yes r A c W (hk.next hb) (by omega) (by omega) hm hnum (hG.below hb);rw[valX_eq] at this;exact this),
     (by have:=rmay_cX r A c w hk (by omega);rw[hm] at this;exact this),
     (by have:=cmay_cX r A c w hk (by omega) (by omega);rw[hm] at this;exact this),
     (fun W hb=>by
      have:=rtok_any r 0 hm 0 A c W (by omega) (hk.next hb) (by omega);rw[valX_eq,tokX_zero] at this;refine this.mono ?_;rintro e w' ⟨g,cap,he,ht,hb⟩;obtain⟨A',c',e',hr⟩:=ht.read;rw[e'] at he;exact⟨A',c',he,hr,hb⟩),
     (fun W A c h=>rjoin_any A _ c _ W h (by omega) hf.fit hc),rfl,
     (fun t ht=>by have:=(hf.fit t ht).parts;omega),hk,by omega⟩
   obtain⟨q,hq⟩:=read_some (tokP r) 0 (Nat.zero_le _)
   rcases read_back hm hq with rfl | ⟨j,rfl⟩
   ·exact eback_ok r A c w _ _ _ _ H hG (by omega) fun A c W h1 h2=>parseC_any A _ c _ 0 W h1 hf h2 (Nat.zero_le _) _ hq
   ·exact eback_deep r A c w _ _ _ _ H hG j (fun A c W h1 h2=>parseC_any A _ c _ 0 W h1 hf h2 (Nat.zero_le _) _ hq) (fun A c W h1=>parseR_any A _ c _ 0 W h1 hf.len (Nat.zero_le _) _ hq)
end Go.Proofs.YthghbdeaenjckaaGreatDoor
