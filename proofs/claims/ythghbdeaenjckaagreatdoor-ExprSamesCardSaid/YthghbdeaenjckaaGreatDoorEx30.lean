import Derived.Test.YthghbdeaenjckaaGreatDoorEx24
import Derived.IntWalk
import Derived.Test.YthghbdeaenjckaaGreatDoorQRead
import Derived.Test.YthghbdeaenjckaaGreatDoorTkJ
namespace Go.Proofs.YthghbdeaenjckaaGreatDoor
open Go Go.RowKit
set_option maxRecDepth 100000
set_option maxHeartbeats 4000000
def KeptK (w w':World):Prop:=w.heap.size≤w'.heap.size∧∀ (k:Nat) (cs:Array Value) (T:TypeId),w.heap[k]?=some (.cells cs T (0,0))→T≠38→w'.heap[k]?=some (.cells cs T (0,0))
theorem KeptK.refl (w:World):KeptK w w:=⟨Nat.le_refl _,fun _ _ _ h _=>h⟩
theorem KeptK.trans {a b c:World} (h:KeptK a b) (k:KeptK b c):KeptK a c:=⟨Nat.le_trans h.1 k.1,fun i cs T hi ht=>k.2 i cs T (h.2 i cs T hi ht) ht⟩
theorem KeptK.below {w w':World} (h:Below w.heap.size w w'):KeptK w w':=⟨h.size,fun k cs T hk _=>by rw[h.block k (Array.getElem?_eq_some_iff.1 hk).1];exact hk⟩
theorem KeptK.alloc (w:World) (o:Obj):KeptK w (w.alloc o):= .below (one_boxX w o)
theorem KeptK.drew (w:World):KeptK w w.drew:=⟨Nat.le_refl _,fun _ _ _ h _=>h⟩
theorem KeptK.grown {w w':World} {B n:Nat} {v:Value} {xs:List Value} (h:w.ownsRow B 38 5 v n xs) (hg:w.grownBy w' v.ownBlock):KeptK w w':=by
 refine⟨hg.size,fun k cs T hk ht=>?_⟩;rw[hg.block k (Array.getElem?_eq_some_iff.1 hk).1 ?_]
 ·exact hk
 ·intro e
  rcases h.2 with ⟨rfl,_⟩ | ⟨g,cap,cur,rfl,_,hh,_⟩
  ·simp[Value.ownBlock] at e
  ·simp only[Value.ownBlock,Option.some.injEq] at e
   subst e;rw[hk] at hh;injection hh with hh
   injection hh with _ ht'
   exact ht ht'
theorem heap_newX (w:World) (o:Obj):(w.alloc o).heap[w.heap.size]?=some o:=by
 show (w.heap.push o)[w.heap.size]?=some o;simp
theorem KeptK.box {w w':World} {T:TypeId} {v0 v1 v2 v3 v4:Value} (h:KeptK (w.alloc (.cells #[v0,v1,v2,v3,v4] T)) w') (ht:T≠38):Box5 w' w.heap.size v0 v1 v2 v3 v4:=by
 have hk:(w.alloc (.cells #[v0,v1,v2,v3,v4] T)).heap[w.heap.size]?=some (.cells #[v0,v1,v2,v3,v4] T (0,0)):=heap_newX w _;have e:w'.heap[w.heap.size]?=(w.alloc (.cells #[v0,v1,v2,v3,v4] T)).heap[w.heap.size]?:=by rw[h.2 _ _ _ hk ht,hk]
 have b:=Box5.new w T v0 v1 v2 v3 v4;exact⟨(World.cell?_of_block e).trans b.c0,(World.cell?_of_block e).trans b.c1,(World.cell?_of_block e).trans b.c2,(World.cell?_of_block e).trans b.c3,(World.cell?_of_block e).trans b.c4,fun q hq=>(World.frozen?_of_block e).trans (b.fr q hq)⟩
def tv (T:List Tok):List Tv:=T.map fun t=>(t,.slice none 0 0)
theorem tv_len (T:List Tok):(tv T).length=T.length:=by simp[tv]
theorem tv_app (T U:List Tok):tv (T++U)=tv T++tv U:=by simp[tv]
theorem tv_fst (T:List Tok):(tv T).map (·.1)=T:=by
 unfold tv;rw[List.map_map];exact List.map_id' T
abbrev TkR (B:Nat) (w:World) (v:Value) (T:List Tok):Prop:=Tks B w w v (tv T)
theorem Tks.root {B:Nat} {w0 w:World} {v:Value} {q:List Tv} (h:Tks B w0 w v q):Tks B w w v q:=⟨h.row,h.parts,Below.refl _ _,h.size⟩
theorem TkR.nil (B:Nat) (w:World) (hB:B≤w.heap.size):TkR B w (.slice none 0 0) []:=⟨World.ownsRow_nil _ _ _ _,by simp[tv],Below.refl _ _,hB⟩
theorem TkR.beyond {B:Nat} {w w':World} {v:Value} {T:List Tok} (h:TkR B w v T) (hb:Below w.heap.size w w'):TkR B w' v T:=(Tks.beyond h hb).root
theorem TkR.one {B:Nat} {w w':World} {v v':Value} {T:List Tok} {t:Tok} (h:TkR B w v T) (ht:t.parts=[]) (ho:w'.ownsRow B 38 5 v' ((tv T).length+1) (cellsT (tv T)++[.int .i64 t.kind,.string ⟨t.word.toArray⟩,.int .i64 t.n,.slice none 0 0,.int .i64 t.pl])) (hg:w.grownBy w' v.ownBlock):TkR B w' v' (T++[t]):=by
 have:=Tks.token h (g:=t) (u:= .slice none 0 0) (by rw[ht];exact World.ownsRow_nil _ _ _ _) ho hg;rw[show TkR B w' v' (T++[t])=Tks B w' w' v' (tv (T++[t])) from rfl,tv_app];exact this.root
def WrK (B:Nat) (w:World) (T:List Tok) (e:Ending) (w':World):Prop:=∃ v',e= .returned v'∧TkR B w' v' T∧Below B w w'∧KeptK w w'
theorem wrk_one {B:Nat} {w w':World} {v v':Value} {T:List Tok} {t:Tok} {o:Obj} (h:TkR B w v T) (ht:t.parts=[]) (ho:w'.ownsRow B 38 5 v' ((tv T).length+1) (cellsT (tv T)++[.int .i64 t.kind,.string ⟨t.word.toArray⟩,.int .i64 t.n,.slice none 0 0,.int .i64 t.pl])) (hg:(w.alloc o).grownBy w' v.ownBlock):WrK B w (T++[t]) (.returned v') w':=
 have h1:TkR B (w.alloc o) v T:=h.beyond (one_boxX w o)
 ⟨v',rfl,h1.one ht ho hg,((Below.refl B w).alloc h.size o).grown hg h1.size (fun k hk=>(h1.row.lt k hk).1),(KeptK.alloc w o).trans (KeptK.grown h1.row hg)⟩
theorem appsign_any (B:Nat) (w:World) (v:Value) (T:List Tok) (S:ByteArray) (h:TkR B w v T) (hT:T.length≤900000):
  Calls Tryz.prog 40 #[v,.string S] w (WrK B w (T++[tSign S.data.toList])):=by
 have H:=Lib.hid h;have hl:(tv T).length≤900000:=by rw[tv_len];exact hT
 obtain⟨i0,hi0,hz0,hz1,hz2⟩:=info_parts infoT;clear h hT;go_enter Tryz.func40,Tryz.ntmps40;go_wp2_with (at_builtin;refine wpList_append_own _ rfl (.tmp 5) (.tmp 8) 27 rfl B 38 i0 (.agg #[.int .i64 0,.string ⟨#[]⟩,.int .i64 0,.slice none 0 0,.int .i64 0]) 5 64 Tryz.underlying27 hi0 hz0 hz1 hz2 rfl (by decide) _ _ _ rfl (H.out.alloc _).row ⟨w.heap.size,0,none⟩ 1 1 [.int .i64 4,.string S,.int .i64 0,.slice none 0 0,.int .i64 0] rfl rfl (fun j u hu=>new_cells w 38 #[.int .i64 4,.string S,.int .i64 0,.slice none 0 0,.int .i64 0] j u hu) (five_one _ _ _ _ _ _ _) (by unfold maxLen;omega) (by omega) (H.out.alloc _).size ?_;intro v2 w3 hown' hgrow _);go_ret;exact wrk_one (t:=tSign S.data.toList) H.out rfl hown' hgrow
def strOf:Ex→Int | .mk k _ _ op _=>if k=4 then (strong op:Int) else 7
theorem strengthof_any (r:Ex) (A:Option Addr) (c:Nat) (w:World):Calls Tryz.prog 65 #[valX r A c] w fun e w'=>e= .returned (.int .i64 (strOf r))∧Below w.heap.size w w':=by
 obtain⟨k,n,nm,op,ks⟩:=r;obtain⟨v,hv⟩:∃ v:Int,v=strOf (Ex.mk k n nm op ks):=⟨_,rfl⟩;rw[←hv];rw[strOf] at hv;simp only[valX];obtain⟨Y,hY⟩:∃ X:ByteArray,X=⟨op.toArray⟩:=⟨_,rfl⟩;have K:=fun w=>cstrong_any Y w
 have e:Y.data.toList=op:=by rw[hY]
 rw[e] at K;rw[←hY];generalize (⟨nm.toArray⟩:ByteArray)=X;generalize ks.length=m;have HK:=Lib.hid K;clear K e hY;by_cases h4:k=4
 ·have b4:(k==4)=true:=by simpa using h4
  have HX:Hid (v=strong op):=Lib.hid (by rw[hv,if_pos h4]);clear hv h4;go_enter Tryz.func65,Tryz.ntmps65;go_wp2_with (go_at_call 41;((with_reducible refine(HK.out _).mono ?_));rintro e w' ⟨rfl,rfl⟩);go_ret;exact⟨ret_int HX.out.symm,(Below.refl _ _).alloc (Nat.le_refl _) _⟩
 have b4:(k==4)=false:=by simpa using h4
 have HX:Hid (v=7):=Lib.hid (by rw[hv,if_neg h4]);clear hv h4;go_enter Tryz.func65,Tryz.ntmps65;go_wp2;go_ret;exact⟨ret_int HX.out.symm,(Below.refl _ _).alloc (Nat.le_refl _) _⟩
theorem binds_strOf {e:Ex} {m:Nat} (hm:m≤7):(decide ((m:Int)≤strOf e)=false ↔ bindsX e<m)∧(decide ((m:Int)≤strOf e)=true ↔ ¬ bindsX e<m):=by
 obtain⟨k,n,nm,op,ks⟩:=e;rw[strOf,bindsX];by_cases h:k=4
 ·rw[if_pos h,if_pos h]
  constructor <;> simp <;> omega
 ·rw[if_neg h,if_neg h]
  have:¬ (if 2≤k then 7 else 8:Nat)<m:=by split <;> omega
  constructor <;> simp[this] <;> omega
def AppP (e:Ex):Prop:=∀ (B:Nat) (w:World) (v:Value) (T:List Tok) (A:Option Addr) (c:Nat),TkR B w v T→KidsX (LtX B) w A e→T.length+3 * sizeX e≤900002→
 Calls Tryz.prog 23 #[v,valX e A c] w (WrK B w (T++tokP e))
def AppK (e:Ex) (m:Nat):Prop:=∀ (B:Nat) (w:World) (v:Value) (T:List Tok) (A:Option Addr) (c:Nat),TkR B w v T→KidsX (LtX B) w A e→T.length+3 * sizeX e≤900000→
 Calls Tryz.prog 39 #[v,valX e A c,.int .i64 m] w (WrK B w (T++tokX e m))
theorem KidsX.belowB {B:Nat} {w w':World} {A:Option Addr} {e:Ex} (h:KidsX (LtX B) w A e) (hb:Below B w w'):KidsX (LtX B) w' A e:=kidsX_of (fun _ hp=>hb.cell hp) (fun _ hk=>hk) e A h
mutual
theorem tokP_len:∀ e:Ex,(tokP e).length+2≤3 * sizeX e
 | .mk k n nm op ks=>by
   have h7:=tokKs_len [] 7 ks;have h4:=tokKs_len [tSign op] (strong op) ks;simp only[List.length_nil,List.length_cons] at h7 h4;rw[tokP,sizeX]
   split
   ·simp;omega
   split
   ·simp;omega
   split
   ·rw[List.length_cons];omega
   split
   ·rw[List.length_cons];omega
   split
   ·omega
   ·simp;omega
theorem tokKs_len:∀ (sep:List Tok) (m:Nat) (ks:List Ex),(tokKs sep m ks).length≤sep.length+3 * sizeXL ks
 | sep,m,[]=>by rw[tokKs];simp
 | sep,m,x::r=>by
   have h1:=tokP_len x;have h2:=tokKs_len [] (m+1) r;rw[tokKs,sizeXL,List.length_append,List.length_append];have:(shutT (bindsX x) m (tokP x)).length≤(tokP x).length+2:=by unfold shutT;split <;> simp
   simp only[List.length_nil] at h2;omega
end
theorem tokX_len (e:Ex) (m:Nat):(tokX e m).length≤3 * sizeX e:=by
 have h1:=tokP_len e;unfold tokX shutT
 split <;> simp <;> omega
theorem appkid_of {e:Ex} (hp:AppP e) (m:Nat) (hm:m≤7):AppK e m:=by
 intro B w v T A c h hk hl;obtain⟨hq1,hq2⟩:=binds_strOf (e:=e) hm;have KP:=Lib.hid hp;have KO:Hid (∀ w,Calls Tryz.prog 65 #[valX e A c] w fun e' w'=>e'= .returned (.int .i64 (strOf e))∧Below w.heap.size w w'):=Lib.hid fun w=>strengthof_any e A c w
 have hlt:=tokP_len e;rw[valX_eq] at KO ⊢
 have KP:Hid (∀ (w:World) (v:Value) (T:List Tok),TkR B w v T→KidsX (LtX B) w A e→T.length+3 * sizeX e≤900002→Calls Tryz.prog 23 #[v,.agg #[.int .i64 e.kind,.int .i64 e.n,.string ⟨e.name.toArray⟩,.string ⟨e.op.toArray⟩,.slice A e.kids.length c]] w (WrK B w (T++tokP e))):=Lib.hid fun w v T h1 h2 h3=>by
  rw[←valX_eq];exact KP.out B w v T A c h1 h2 h3
 have H:=Lib.hid h;have HK:=Lib.hid hk;have HLT:=Lib.hid hlt;unfold tokX shutT;by_cases hb:bindsX e<m
 ·rw[if_pos hb]
  have q:=hq1.2 hb;generalize strOf e=so at q KO;clear h hk hp hq1 hq2 hlt hb;have q2:(so:Int)<m:=by simpa using q
  go_enter Tryz.func39,Tryz.ntmps39;go_wp2_with (go_at_call 65;go_must ((with_reducible refine(KO.out _).mono ?_);rintro e1 w1 ⟨rfl,hb1⟩;have HB1:=Lib.hid ((one_boxX w (objX e A c)).trans (hb1.mono (by simp)));have HX1:=Lib.hid ((Box5.new w 24 (.int .i64 e.kind) (.int .i64 e.n) (.string ⟨e.name.toArray⟩) (.string ⟨e.op.toArray⟩) (.slice A e.kids.length c)).low hb1);have HKK1:=Lib.hid ((KeptK.below hb1));clear hb1;obtain⟨d0,d1,d2,d3,d4,_⟩:=HX1.out));have HR1:Hid (TkR B w1.drew v T):=Lib.hid ((H.out.beyond HB1.out).beyond (Below.refl _ _).drew);have HKD1:=Lib.hid (HKK1.out.trans (KeptK.drew w1));have HBB1:=Lib.hid ((HB1.out.mono H.out.size:Below B w w1).drew)
  go_region_held3 (fun W'=>W'.cell? ⟨w.heap.size,0,none⟩=some (.int .i64 e.kind)∧W'.cell? ⟨w.heap.size,1,none⟩=some (.int .i64 e.n)∧W'.cell? ⟨w.heap.size,2,none⟩=some (.string ⟨e.name.toArray⟩)∧W'.cell? ⟨w.heap.size,3,none⟩=some (.string ⟨e.op.toArray⟩)∧W'.cell? ⟨w.heap.size,4,none⟩=some (.slice A e.kids.length c))
   (first | (with_reducible exact⟨d0,d1,d2,d3,d4⟩) | (simp only[World.cell?_drew,d0,d1,d2,d3,d4,and_self]))
   (first
    | (go_at_call 40;((with_reducible refine(appsign_any B _ v T _ HR1.out (by omega)).mono ?_);rintro e2 w2 ⟨v2,rfl,ht2,hb2,hk2⟩;have HR2:=Lib.hid ht2;have HB2:=Lib.hid (HBB1.out.trans hb2);have HK2:=Lib.hid (HKD1.out.trans hk2);clear ht2 hb2 hk2 d0 d1 d2 d3 d4;obtain⟨d0,d1,d2,d3,d4,_⟩:=HK2.out.box (by decide)))
    | (go_at_call 23;((with_reducible refine(KP.out _ v2 _ HR2.out (HK.out.belowB HB2.out) (by simp;omega)).mono ?_);rintro e3 w3 ⟨v3,rfl,ht3,hb3,hk3⟩;have HR3:=Lib.hid ht3;have HB3:=Lib.hid (HB2.out.trans hb3);have HK3:=Lib.hid (HK2.out.trans hk3);clear ht3 hb3 hk3 d0 d1 d2 d3 d4;obtain⟨d0,d1,d2,d3,d4,_⟩:=HK3.out.box (by decide)))
    | (go_at_call 40;((with_reducible refine(appsign_any B _ v3 _ _ HR3.out (by have:=HLT.out;simp;omega)).mono ?_);rintro e4 w4 ⟨v4,rfl,ht4,hb4,hk4⟩;have HR4:=Lib.hid ht4;have HB4:=Lib.hid (HB3.out.trans hb4);have HK4:=Lib.hid (HK3.out.trans hk4);clear ht4 hb4 hk4 d0 d1 d2 d3 d4;obtain⟨d0,d1,d2,d3,d4,_⟩:=HK4.out.box (by decide))))
  go_wp2;go_ret;exact⟨v4,rfl,by simpa using HR4.out,HB4.out,(KeptK.alloc w _).trans HK4.out⟩
 ·rw[if_neg hb]
  have q:=hq2.2 hb;generalize strOf e=so at q KO;clear h hk hp hq1 hq2 hlt hb;have q2:(m:Int)≤so:=by simpa using q
  go_enter Tryz.func39,Tryz.ntmps39;go_wp2_with (first | (go_at_call 65;go_must ((with_reducible refine(KO.out _).mono ?_);rintro e1 w1 ⟨rfl,hb1⟩;have HB1:=Lib.hid ((one_boxX w (objX e A c)).trans (hb1.mono (by simp)));have HX1:=Lib.hid ((Box5.new w 24 (.int .i64 e.kind) (.int .i64 e.n) (.string ⟨e.name.toArray⟩) (.string ⟨e.op.toArray⟩) (.slice A e.kids.length c)).low hb1);clear hb1;obtain⟨d0,d1,d2,d3,d4,_⟩:=HX1.out)) | (go_at_call 23;go_must ((with_reducible refine(KP.out _ v T (H.out.beyond HB1.out) (HK.out.belowB (HB1.out.mono H.out.size)) (by omega)).mono ?_);rintro e3 w3 ⟨v3,rfl,ht3,hb3,hk3⟩)));go_ret;exact⟨v3,rfl,ht3,(HB1.out.mono H.out.size).trans hb3,(KeptK.below HB1.out).trans hk3⟩
theorem apptok_num (z:Int):AppP (exNum z):=by
 intro B w v T A c h hk hl;have H:=Lib.hid h;have hl0:(tv T).length≤900000:=by rw[tv_len];have:sizeX (exNum z)=1:=(size_num z).1;omega
 obtain⟨i0,hi0,hz0,hz1,hz2⟩:=info_parts infoT;rw[tok_num];unfold exNum;simp only[valX];clear h hk hl;go_enter Tryz.func23,Tryz.ntmps23;have H1:=Lib.hid (H.out.beyond (one_boxX w (.cells #[.int .i64 0,.int .i64 z,.string ⟨#[]⟩,.string ⟨#[]⟩,.slice A 0 c] 24)));go_wp2_with (at_builtin;refine wpList_append_own _ rfl (.tmp 59) (.tmp 63) 27 rfl B 38 i0 (.agg #[.int .i64 0,.string ⟨#[]⟩,.int .i64 0,.slice none 0 0,.int .i64 0]) 5 64 Tryz.underlying27 hi0 hz0 hz1 hz2 rfl (by decide) _ _ _ rfl (H1.out.alloc _).row ⟨w.heap.size+1,0,none⟩ 1 1 [.int .i64 2,.string ⟨#[]⟩,.int .i64 z,.slice none 0 0,.int .i64 0] rfl rfl (fun j u hu=>new_cellsT w _ 38 #[.int .i64 2,.string ⟨#[]⟩,.int .i64 z,.slice none 0 0,.int .i64 0] j u hu) (five_one _ _ _ _ _ _ _) (by unfold maxLen;omega) (by omega) (H1.out.alloc _).size ?_;intro v2 w9 hown' hgrow _);go_ret;obtain⟨v3,e3,g1,g2,g3⟩:=wrk_one (t:=tNum z) H1.out rfl hown' hgrow;exact⟨v3,e3,g1,((Below.refl B w).alloc H.out.size _).trans g2,(KeptK.alloc w _).trans g3⟩
theorem apptok_var (nm:Bs) (hn:nm.length≤100000):AppP (exVar nm):=by
 intro B w v T A c h hk hl;have H:=Lib.hid h;have hl0:(tv T).length≤900000:=by rw[tv_len];have:sizeX (exVar nm)=1:=(size_var nm).1;omega
 obtain⟨i0,hi0,hz0,hz1,hz2⟩:=info_parts infoT;rw[tok_var];unfold exVar;simp only[valX];obtain⟨X,hX⟩:∃ X:ByteArray,X=⟨nm.toArray⟩:=⟨_,rfl⟩;have hXs:X.size≤281474976710656:=by rw[←len_data,hX];show nm.length≤_;omega
 have KC:=Lib.hid fun w=>tclone_any X hXs w
 rw[←hX];have HX:=Lib.hid hX;clear h hk hl hXs hX hn;go_enter Tryz.func23,Tryz.ntmps23;go_wp2_with (first | (go_at_call 34;((with_reducible refine(KC.out _).mono ?_);rintro e w1 ⟨rfl,hb1⟩;have HB1:=Lib.hid ((one_boxX w (.cells #[.int .i64 1,.int .i64 0,.string X,.string ⟨#[]⟩,.slice A 0 c] 24)).trans (hb1.mono (by simp)));clear hb1;have H1:=Lib.hid (H.out.beyond HB1.out))) | (at_builtin;refine wpList_append_own _ rfl (.tmp 10) (.tmp 15) 27 rfl B 38 i0 (.agg #[.int .i64 0,.string ⟨#[]⟩,.int .i64 0,.slice none 0 0,.int .i64 0]) 5 64 Tryz.underlying27 hi0 hz0 hz1 hz2 rfl (by decide) _ _ _ rfl (H1.out.alloc _).row ⟨_,0,none⟩ 1 1 [.int .i64 6,.string X,.int .i64 0,.slice none 0 0,.int .i64 0] rfl rfl (fun j u hu=>new_cells _ 38 #[.int .i64 6,.string X,.int .i64 0,.slice none 0 0,.int .i64 0] j u hu) (five_one _ _ _ _ _ _ _) (by unfold maxLen;omega) (by omega) (H1.out.alloc _).size ?_;intro v2 w9 hown' hgrow _));go_ret;obtain⟨v3,e3,g1,g2,g3⟩:=wrk_one (t:=tVar nm) H1.out rfl (by rw[HX.out] at hown';exact hown') hgrow;exact⟨v3,e3,g1,(HB1.out.mono H.out.size).trans g2,(KeptK.below HB1.out).trans g3⟩
theorem apptok_neg (x:Ex) (hx:AppK x 7):AppP (exNeg x):=by
 intro B w v T A c h hk hl;have hsz:sizeX (exNeg x)=1+sizeX x:=(size_neg x).1;rw[tok_neg];rw[exNeg,KidsX] at hk;obtain⟨ad,rfl,hP,hkl⟩:=hk.resolve_left (by simp);rw[KidsXL] at hkl;obtain⟨⟨A1,c1,h5,hkx⟩,_⟩:=hkl;have e0:ad.add (0 * 5)=ad:=by simp[Addr.add]
 rw[e0] at h5
 have HP5:Hid (∀ W',Below B w W'→W'.cell? ad=some (.int .i64 x.kind)∧W'.cell? ⟨ad.block,ad.off+1,none⟩=some (.int .i64 x.n)∧W'.cell? ⟨ad.block,ad.off+2,none⟩=some (.string ⟨x.name.toArray⟩)∧W'.cell? ⟨ad.block,ad.off+3,none⟩=some (.string ⟨x.op.toArray⟩)∧W'.cell? ⟨ad.block,ad.off+4,none⟩=some (.slice A1 x.kids.length c1)):=Lib.hid fun W' hb=>by
  obtain⟨k',n',nm',op',ks'⟩:=x;exact h5.keep (fun p hp=>hb.cell (by rw[hp];exact hP))
 have HK:Hid (∀ (w:World) (v:Value) (T:List Tok),TkR B w v T→KidsX (LtX B) w A1 x→T.length+3 * sizeX x≤900000→Calls Tryz.prog 39 #[v,.agg #[.int .i64 x.kind,.int .i64 x.n,.string ⟨x.name.toArray⟩,.string ⟨x.op.toArray⟩,.slice A1 x.kids.length c1],.int .i64 7] w (WrK B w (T++tokX x 7))):=Lib.hid fun w v T h1 h2 h3=>by
  have:=hx B w v T A1 c1 h1 h2 h3;rw[valX_eq] at this;exact this
 have HKX:=Lib.hid hkx;have H:=Lib.hid h;have hsT:T.length+1+3 * sizeX x≤900000:=by omega
 unfold exNeg;simp only[valX,List.length_singleton];have hB:=H.out.size;have HB0:=Lib.hid ((Below.refl B w).alloc hB (.cells #[.int .i64 2,.int .i64 0,.string ⟨#[]⟩,.string ⟨#[]⟩,.slice (some ad) 1 c] 24));obtain⟨l0,l1,l2,l3,l4⟩:=HP5.out _ HB0.out;clear h hk hl hP hkx h5 hsz hx e0;go_enter Tryz.func23,Tryz.ntmps23;have HR1:Hid (TkR B (w.alloc (.cells #[.int .i64 2,.int .i64 0,.string ⟨#[]⟩,.string ⟨#[]⟩,.slice (some ad) 1 c] 24)).drew v T):=Lib.hid ((H.out.beyond (one_boxX w _)).beyond (Below.refl _ _).drew);have HK1:Hid (KeptK (w.alloc (.cells #[.int .i64 2,.int .i64 0,.string ⟨#[]⟩,.string ⟨#[]⟩,.slice (some ad) 1 c] 24)) (w.alloc (.cells #[.int .i64 2,.int .i64 0,.string ⟨#[]⟩,.string ⟨#[]⟩,.slice (some ad) 1 c] 24)).drew):=Lib.hid (KeptK.drew _);obtain⟨_,_,_,_,d4,_⟩:=(KeptK.refl (w.alloc (.cells #[.int .i64 2,.int .i64 0,.string ⟨#[]⟩,.string ⟨#[]⟩,.slice (some ad) 1 c] 24))).box (by decide);go_wp2
 go_region_held3 (fun W'=>W'.cell? ⟨w.heap.size,4,none⟩=some (.slice (some ad) 1 c)∧W'.cell? ad=some (.int .i64 x.kind)∧W'.cell? ⟨ad.block,ad.off+1,none⟩=some (.int .i64 x.n)∧W'.cell? ⟨ad.block,ad.off+2,none⟩=some (.string ⟨x.name.toArray⟩)∧W'.cell? ⟨ad.block,ad.off+3,none⟩=some (.string ⟨x.op.toArray⟩)∧W'.cell? ⟨ad.block,ad.off+4,none⟩=some (.slice A1 x.kids.length c1))
  (first | (with_reducible exact⟨d4,l0,l1,l2,l3,l4⟩) | (simp only[World.cell?_drew,d4,l0,l1,l2,l3,l4,and_self]))
  (first
   | (go_at_call 40;((with_reducible refine(appsign_any B _ v T _ HR1.out (by omega)).mono ?_);rintro e2 w2 ⟨v2,rfl,ht2,hb2,hk2⟩;have HR2:=Lib.hid ht2;have HB2:=Lib.hid (HB0.out.drew.trans hb2);have HK2:=Lib.hid (HK1.out.trans hk2);clear ht2 hb2 hk2 d4 l0 l1 l2 l3 l4;obtain⟨_,_,_,_,d4,_⟩:=HK2.out.box (by decide);obtain⟨l0,l1,l2,l3,l4⟩:=HP5.out _ HB2.out))
   | (go_at_call 39;((with_reducible refine(HK.out _ v2 _ HR2.out (HKX.out.belowB HB2.out) (by simp;omega)).mono ?_);rintro e3 w3 ⟨v3,rfl,ht3,hb3,hk3⟩;have HR3:=Lib.hid ht3;have HB3:=Lib.hid (HB2.out.trans hb3);have HK3:=Lib.hid (HK2.out.trans hk3);clear ht3 hb3 hk3 d4 l0 l1 l2 l3 l4;obtain⟨_,_,_,_,d4,_⟩:=HK3.out.box (by decide);obtain⟨l0,l1,l2,l3,l4⟩:=HP5.out _ HB3.out)))
 go_wp2;go_ret;exact⟨v3,rfl,by simpa using HR3.out,HB3.out,(KeptK.alloc w _).trans HK3.out⟩
theorem apptok_not (x:Ex) (hx:AppK x 7):AppP (exNot x):=by
 intro B w v T A c h hk hl;have hsz:sizeX (exNot x)=1+sizeX x:=(size_not x).1;rw[tok_not];rw[exNot,KidsX] at hk;obtain⟨ad,rfl,hP,hkl⟩:=hk.resolve_left (by simp);rw[KidsXL] at hkl;obtain⟨⟨A1,c1,h5,hkx⟩,_⟩:=hkl;have e0:ad.add (0 * 5)=ad:=by simp[Addr.add]
 rw[e0] at h5
 have HP5:Hid (∀ W',Below B w W'→W'.cell? ad=some (.int .i64 x.kind)∧W'.cell? ⟨ad.block,ad.off+1,none⟩=some (.int .i64 x.n)∧W'.cell? ⟨ad.block,ad.off+2,none⟩=some (.string ⟨x.name.toArray⟩)∧W'.cell? ⟨ad.block,ad.off+3,none⟩=some (.string ⟨x.op.toArray⟩)∧W'.cell? ⟨ad.block,ad.off+4,none⟩=some (.slice A1 x.kids.length c1)):=Lib.hid fun W' hb=>by
  obtain⟨k',n',nm',op',ks'⟩:=x;exact h5.keep (fun p hp=>hb.cell (by rw[hp];exact hP))
 have HK:Hid (∀ (w:World) (v:Value) (T:List Tok),TkR B w v T→KidsX (LtX B) w A1 x→T.length+3 * sizeX x≤900000→Calls Tryz.prog 39 #[v,.agg #[.int .i64 x.kind,.int .i64 x.n,.string ⟨x.name.toArray⟩,.string ⟨x.op.toArray⟩,.slice A1 x.kids.length c1],.int .i64 7] w (WrK B w (T++tokX x 7))):=Lib.hid fun w v T h1 h2 h3=>by
  have:=hx B w v T A1 c1 h1 h2 h3;rw[valX_eq] at this;exact this
 have HKX:=Lib.hid hkx;have H:=Lib.hid h;have hsT:T.length+1+3 * sizeX x≤900000:=by omega
 unfold exNot;simp only[valX,List.length_singleton];have hB:=H.out.size;have HB0:=Lib.hid ((Below.refl B w).alloc hB (.cells #[.int .i64 3,.int .i64 0,.string ⟨#[]⟩,.string ⟨#[]⟩,.slice (some ad) 1 c] 24));obtain⟨l0,l1,l2,l3,l4⟩:=HP5.out _ HB0.out;clear h hk hl hP hkx h5 hsz hx e0;go_enter Tryz.func23,Tryz.ntmps23;have HR1:Hid (TkR B (w.alloc (.cells #[.int .i64 3,.int .i64 0,.string ⟨#[]⟩,.string ⟨#[]⟩,.slice (some ad) 1 c] 24)).drew v T):=Lib.hid ((H.out.beyond (one_boxX w _)).beyond (Below.refl _ _).drew);have HK1:Hid (KeptK (w.alloc (.cells #[.int .i64 3,.int .i64 0,.string ⟨#[]⟩,.string ⟨#[]⟩,.slice (some ad) 1 c] 24)) (w.alloc (.cells #[.int .i64 3,.int .i64 0,.string ⟨#[]⟩,.string ⟨#[]⟩,.slice (some ad) 1 c] 24)).drew):=Lib.hid (KeptK.drew _);obtain⟨_,_,_,_,d4,_⟩:=(KeptK.refl (w.alloc (.cells #[.int .i64 3,.int .i64 0,.string ⟨#[]⟩,.string ⟨#[]⟩,.slice (some ad) 1 c] 24))).box (by decide);go_wp2
 go_region_held3 (fun W'=>W'.cell? ⟨w.heap.size,4,none⟩=some (.slice (some ad) 1 c)∧W'.cell? ad=some (.int .i64 x.kind)∧W'.cell? ⟨ad.block,ad.off+1,none⟩=some (.int .i64 x.n)∧W'.cell? ⟨ad.block,ad.off+2,none⟩=some (.string ⟨x.name.toArray⟩)∧W'.cell? ⟨ad.block,ad.off+3,none⟩=some (.string ⟨x.op.toArray⟩)∧W'.cell? ⟨ad.block,ad.off+4,none⟩=some (.slice A1 x.kids.length c1))
  (first | (with_reducible exact⟨d4,l0,l1,l2,l3,l4⟩) | (simp only[World.cell?_drew,d4,l0,l1,l2,l3,l4,and_self]))
  (first
   | (go_at_call 40;((with_reducible refine(appsign_any B _ v T _ HR1.out (by omega)).mono ?_);rintro e2 w2 ⟨v2,rfl,ht2,hb2,hk2⟩;have HR2:=Lib.hid ht2;have HB2:=Lib.hid (HB0.out.drew.trans hb2);have HK2:=Lib.hid (HK1.out.trans hk2);clear ht2 hb2 hk2 d4 l0 l1 l2 l3 l4;obtain⟨_,_,_,_,d4,_⟩:=HK2.out.box (by decide);obtain⟨l0,l1,l2,l3,l4⟩:=HP5.out _ HB2.out))
   | (go_at_call 39;((with_reducible refine(HK.out _ v2 _ HR2.out (HKX.out.belowB HB2.out) (by simp;omega)).mono ?_);rintro e3 w3 ⟨v3,rfl,ht3,hb3,hk3⟩;have HR3:=Lib.hid ht3;have HB3:=Lib.hid (HB2.out.trans hb3);have HK3:=Lib.hid (HK2.out.trans hk3);clear ht3 hb3 hk3 d4 l0 l1 l2 l3 l4;obtain⟨_,_,_,_,d4,_⟩:=HK3.out.box (by decide);obtain⟨l0,l1,l2,l3,l4⟩:=HP5.out _ HB3.out)))
 go_wp2;go_ret;exact⟨v3,rfl,by simpa using HR3.out,HB3.out,(KeptK.alloc w _).trans HK3.out⟩
theorem apptok_bin (op:Bs) (x y:Ex) (hop:op.length≤100000) (hx:AppK x (strong op)) (hy:AppK y (strong op+1)):AppP (exBin op x y):=by
 intro B w v T A c h hk hl;have hsz:sizeX (exBin op x y)=1+(sizeX x+sizeX y):=(size_bin op x y).1;have h6:=strong_le op;have hxl:=tokX_len x (strong op);rw[tok_bin];rw[exBin,KidsX] at hk;obtain⟨ad,rfl,hP,hkl⟩:=hk.resolve_left (by simp);rw[KidsXL,KidsXL] at hkl;obtain⟨⟨A1,c1,h5,hkx⟩,⟨A2,c2,h5',hky⟩,_⟩:=hkl;have e0:ad.add (0 * 5)=ad:=by simp[Addr.add]
 have e1:ad.add ((0+1) * 5)=⟨ad.block,ad.off+5,none⟩:=by simp[Addr.add]
 rw[e0] at h5;rw[e1] at h5'
 have HP5:Hid (∀ W',Below B w W'→W'.cell? ad=some (.int .i64 x.kind)∧W'.cell? ⟨ad.block,ad.off+1,none⟩=some (.int .i64 x.n)∧W'.cell? ⟨ad.block,ad.off+2,none⟩=some (.string ⟨x.name.toArray⟩)∧W'.cell? ⟨ad.block,ad.off+3,none⟩=some (.string ⟨x.op.toArray⟩)∧W'.cell? ⟨ad.block,ad.off+4,none⟩=some (.slice A1 x.kids.length c1)):=Lib.hid fun W' hb=>by
  obtain⟨k',n',nm',op',ks'⟩:=x;exact h5.keep (fun p hp=>hb.cell (by rw[hp];exact hP))
 have HQ5:Hid (∀ W',Below B w W'→W'.cell? ⟨ad.block,ad.off+5,none⟩=some (.int .i64 y.kind)∧W'.cell? ⟨ad.block,ad.off+5+1,none⟩=some (.int .i64 y.n)∧W'.cell? ⟨ad.block,ad.off+5+2,none⟩=some (.string ⟨y.name.toArray⟩)∧W'.cell? ⟨ad.block,ad.off+5+3,none⟩=some (.string ⟨y.op.toArray⟩)∧W'.cell? ⟨ad.block,ad.off+5+4,none⟩=some (.slice A2 y.kids.length c2)):=Lib.hid fun W' hb=>by
  obtain⟨k',n',nm',op',ks'⟩:=y;exact h5'.keep (fun p hp=>hb.cell (by rw[hp];exact hP))
 obtain⟨st,hst⟩:∃ st,st=strong op:=⟨_,rfl⟩;rw[←hst] at hx hy h6 hxl ⊢
 have HKx:Hid (∀ (w:World) (v:Value) (T:List Tok),TkR B w v T→KidsX (LtX B) w A1 x→T.length+3 * sizeX x≤900000→Calls Tryz.prog 39 #[v,.agg #[.int .i64 x.kind,.int .i64 x.n,.string ⟨x.name.toArray⟩,.string ⟨x.op.toArray⟩,.slice A1 x.kids.length c1],.int .i64 st] w (WrK B w (T++tokX x st))):=Lib.hid fun w v T h1 h2 h3=>by
  have:=hx B w v T A1 c1 h1 h2 h3;rw[valX_eq] at this;exact this
 have HKy:Hid (∀ (w:World) (v:Value) (T:List Tok),TkR B w v T→KidsX (LtX B) w A2 y→T.length+3 * sizeX y≤900000→Calls Tryz.prog 39 #[v,.agg #[.int .i64 y.kind,.int .i64 y.n,.string ⟨y.name.toArray⟩,.string ⟨y.op.toArray⟩,.slice A2 y.kids.length c2],.int .i64 ((st:Int)+1)] w (WrK B w (T++tokX y (st+1)))):=Lib.hid fun w v T h1 h2 h3=>by
  have:=hy B w v T A2 c2 h1 h2 h3;rw[valX_eq] at this;exact this
 have HKX:=Lib.hid hkx;have HKY:=Lib.hid hky;have H:=Lib.hid h;obtain⟨S,hS⟩:∃ S:ByteArray,S=⟨op.toArray⟩:=⟨_,rfl⟩;have hSs:S.size≤281474976710656:=by rw[←len_data,hS];show op.length≤_;omega
 have eS:S.data.toList=op:=by rw[hS]
 have KC:=Lib.hid fun w=>tclone_any S hSs w
 have KT:Hid (∀ w,Calls Tryz.prog 41 #[.string S] w fun e w'=>e= .returned (.int .i64 st)∧w=w'):=Lib.hid fun w=>by rw[hst,←eS];exact cstrong_any S w
 have HES:=Lib.hid eS;have hsT:T.length+3 * sizeX x+1+3 * sizeX y≤900000:=by omega
 unfold exBin;simp only[valX,List.length_cons,List.length_nil];rw[←hS];have hB:=H.out.size;have HB0:=Lib.hid ((Below.refl B w).alloc hB (.cells #[.int .i64 4,.int .i64 0,.string ⟨#[]⟩,.string S,.slice (some ad) 2 c] 24));have HR0:Hid (TkR B (w.alloc (.cells #[.int .i64 4,.int .i64 0,.string ⟨#[]⟩,.string S,.slice (some ad) 2 c] 24)) v T):=Lib.hid (H.out.beyond (one_boxX w _));obtain⟨l0,l1,l2,l3,l4⟩:=HP5.out _ HB0.out;obtain⟨d0,d1,d2,d3,d4,_⟩:=(KeptK.refl (w.alloc (.cells #[.int .i64 4,.int .i64 0,.string ⟨#[]⟩,.string S,.slice (some ad) 2 c] 24))).box (by decide);clear h hk hl hP hkx hky h5 h5' hsz hx hy e0 e1 hst hS hSs eS hop;go_enter Tryz.func23,Tryz.ntmps23;go_wp2_with (first | (go_at_call 41;go_must ((with_reducible refine(KT.out _).mono ?_);rintro e w' ⟨rfl,rfl⟩)) | (go_at_call 39;go_must ((with_reducible refine(HKx.out _ v T HR0.out (HKX.out.belowB HB0.out) (by omega)).mono ?_);rintro e1 w1 ⟨v1,rfl,ht1,hb1,hk1⟩;have HR1:=Lib.hid ht1;have HB1:=Lib.hid (HB0.out.trans hb1);have HK1:=Lib.hid hk1;clear ht1 hb1 hk1 l0 l1 l2 l3 l4 d0 d1 d2 d3 d4)));have HRd:Hid (TkR B w1.drew v1 (T++tokX x st)):=Lib.hid (HR1.out.beyond (Below.refl _ _).drew);have HKd:=Lib.hid (HK1.out.trans (KeptK.drew w1));have HBd:=Lib.hid HB1.out.drew;obtain⟨_,_,_,d3,d4,_⟩:=HK1.out.box (by decide);obtain⟨l0,l1,l2,l3,l4⟩:=HQ5.out _ HB1.out;have hwr:IntKind.i64.wrap ((st:Int)+1)=(st:Int)+1:=IntWalk.i64_in _ (by omega)
 go_region_held3 (fun W'=>W'.cell? ⟨w.heap.size,3,none⟩=some (.string S)∧W'.cell? ⟨w.heap.size,4,none⟩=some (.slice (some ad) 2 c)∧W'.cell? ⟨ad.block,ad.off+5,none⟩=some (.int .i64 y.kind)∧W'.cell? ⟨ad.block,ad.off+5+1,none⟩=some (.int .i64 y.n)∧W'.cell? ⟨ad.block,ad.off+5+2,none⟩=some (.string ⟨y.name.toArray⟩)∧W'.cell? ⟨ad.block,ad.off+5+3,none⟩=some (.string ⟨y.op.toArray⟩)∧W'.cell? ⟨ad.block,ad.off+5+4,none⟩=some (.slice A2 y.kids.length c2))
  (first | (with_reducible exact⟨d3,d4,l0,l1,l2,l3,l4⟩) | (simp only[World.cell?_drew,d3,d4,l0,l1,l2,l3,l4,and_self]))
  (first
   | (go_at_call 34;((with_reducible refine(KC.out _).mono ?_);rintro e5 w5 ⟨rfl,hb5⟩;have HR5:=Lib.hid (HRd.out.beyond hb5);have HB5:=Lib.hid (HBd.out.trans (hb5.mono HRd.out.size));have HK5:=Lib.hid (HKd.out.trans (KeptK.below hb5));clear hb5 d3 d4 l0 l1 l2 l3 l4;obtain⟨_,_,_,d3,d4,_⟩:=HK5.out.box (by decide);obtain⟨l0,l1,l2,l3,l4⟩:=HQ5.out _ HB5.out))
   | (go_at_call 40;((with_reducible refine(appsign_any B _ v1 _ _ HR5.out (by simp;omega)).mono ?_);rintro e2 w2 ⟨v2,rfl,ht2,hb2,hk2⟩;have HR2:=Lib.hid ht2;have HB2:=Lib.hid (HB5.out.trans hb2);have HK2:=Lib.hid (HK5.out.trans hk2);clear ht2 hb2 hk2 d3 d4 l0 l1 l2 l3 l4;obtain⟨_,_,_,d3,d4,_⟩:=HK2.out.box (by decide);obtain⟨l0,l1,l2,l3,l4⟩:=HQ5.out _ HB2.out))
   | (go_at_call 39;((with_reducible refine(HKy.out _ v2 _ HR2.out (HKY.out.belowB HB2.out) (by simp;omega)).mono ?_);rintro e3 w3 ⟨v3,rfl,ht3,hb3,hk3⟩;have HR3:=Lib.hid ht3;have HB3:=Lib.hid (HB2.out.trans hb3);have HK3:=Lib.hid (HK2.out.trans hk3);clear ht3 hb3 hk3 d3 d4 l0 l1 l2 l3 l4;obtain⟨_,_,_,d3,d4,_⟩:=HK3.out.box (by decide);obtain⟨l0,l1,l2,l3,l4⟩:=HQ5.out _ HB3.out)))
 go_wp2;go_ret;exact⟨v3,rfl,by have:=HR3.out;rw[HES.out] at this;simpa using this,HB3.out,(KeptK.alloc w _).trans HK3.out⟩
theorem name_len8 {l:Bs} (h:isName l=true):l.length≤8:=by
 unfold isName at h;simp at h;have:=(nameLen_le l).2;omega
theorem strong_len {op:Bs} (h:1≤strong op):op.length≤2:=by
 unfold strong at h
 repeat' split at h
 all_goals first | omega | (rename_i e;first | (rw[e];simp) | (rcases e with e | e | e | e <;> rw[e] <;> simp) | (rcases e with e | e | e <;> rw[e] <;> simp) | (rcases e with e | e <;> rw[e] <;> simp))
theorem apptok_any:∀ (e:Ex) (d:Nat),mayX e d=true→AppP e:=by
 intro e
 induction e using Ex.ind with
 | h k n nm op ks ih=>
   intro d hm
   rcases mayX_cases hm with ⟨n',e,_⟩ | ⟨w,e,hw⟩ | ⟨x,e,_,hx⟩ | ⟨x,e,_,hx⟩ | ⟨op',x,y,e,h1,_,hx,hy⟩
   ·rw[e];exact apptok_num n'
   ·rw[e];exact apptok_var w (by have:=name_len8 hw;omega)
   ·have hin:x∈ks:=by simp only[exNeg,Ex.mk.injEq] at e;rw[e.2.2.2.2];simp
    rw[e];exact apptok_neg x (appkid_of (ih x hin _ hx) 7 (by omega))
   ·have hin:x∈ks:=by simp only[exNot,Ex.mk.injEq] at e;rw[e.2.2.2.2];simp
    rw[e];exact apptok_not x (appkid_of (ih x hin _ hx) 7 (by omega))
   ·have hin:x∈ks∧y∈ks:=by simp only[exBin,Ex.mk.injEq] at e;rw[e.2.2.2.2];simp
    have h6:=strong_le op';rw[e];exact apptok_bin op' x y (by have:=strong_len h1;omega) (appkid_of (ih x hin.1 _ hx) _ (by omega)) (appkid_of (ih y hin.2 _ hy) _ (by omega))
def textSum (ps:List Pt):Nat:=(ps.map fun p=>p.2.length).sum
theorem textSum_app (a b:List Pt):textSum (a++b)=textSum a+textSum b:=by simp[textSum]
theorem textSum_mem {ps:List Pt} {p:Pt} (h:p∈ps):p.2.length≤textSum ps:=by
 induction ps with
 | nil=>cases h
 | cons q r ih=>
   have e:textSum (q::r)=q.2.length+textSum r:=by simp[textSum]
   rw[e]
   rcases List.mem_cons.1 h with rfl | h
   ·omega
   ·have:=ih h;omega
theorem flush_sum (ps:List Pt) (t:Bs):textSum (flush ps t)=textSum ps+t.length:=by
 unfold flush
 split
 ·rename_i e;rw[e];simp
 ·rw[textSum_app];simp[textSum]
theorem goN_sum (r:Bs) (pos:Nat) (ps:List Pt) (t:Bs):∀ out,(goN r pos ps t).1=some out→textSum out≤textSum ps+t.length+r.length:=by
 refine goN_ind (P:=fun r pos ps t=>∀ out,(goN r pos ps t).1=some out→textSum out≤textSum ps+t.length+r.length) ?_ ?_ ?_ ?_ (r.length+1) r pos ps t (Nat.lt_succ_self _)
 ·intro r k pos ps t h out ho
  rw[goN_bad h] at ho;cases ho
 ·intro r pos ps t h out ho
  rw[goN_stop h] at ho;injection ho with ho;subst ho
  rw[flush_sum];omega
 ·intro r nm k pos ps t h h0 h1 ih out ho
  rw[goN_var h] at ho;have:=ih out ho;rw[textSum_app,flush_sum,List.length_drop] at this;simp[textSum] at this;simp only[textSum];omega
 ·intro r c k pos ps t h h0 h1 ih out ho
  rw[goN_byte h] at ho;have:=ih out ho;rw[List.length_append,List.length_drop] at this;simp at this;omega
theorem parse_sum (l:Bs) (out:List Pt) (h:(parse l).1=some out):textSum out≤l.length:=by
 cases l with
 | nil=>simp[parse] at h
 | cons c r=>
   by_cases hc:c=34
   ·subst hc
    rw[parse_quote] at h;have:=goN_sum r 1 [] [] out h;simp[textSum] at this ⊢;omega
   ·rw[parse_no c r hc] at h;cases h
theorem print_sum:∀ ps:List Pt,(∀ p∈ps,p.1.length≤8)→(ps.flatMap prP).length≤11 * ps.length+4 * textSum ps
 | [],_=>by simp
 | p::r,h=>by
   have h1:=print_sum r fun q hq=>h q (by simp[hq])
   have h2:=h p (by simp);have h3:=bytes_len p.2
   have h4:(prV p.1).length≤11:=by
    unfold prV
    split
    ·simp
    ·simp;omega
   have e:textSum (p::r)=p.2.length+textSum r:=by simp[textSum]
   have h5:(prP p).length=(prV p.1).length+(p.2.flatMap prB).length:=by unfold prP;rw[List.length_append]
   rw[List.flatMap_cons,List.length_append,List.length_cons,e,h5];omega
theorem fit_read {N:Nat} {t:Tok} (h:Read1 N t) (hN:N≤200):FitT t:=by
 have ho:=h.ok
 have hn: -9223372036854775808≤t.n∧t.n≤9223372036854775807:=by
  refine⟨?_,h.n⟩;unfold okT at ho
  split at ho
  ·simp at ho;omega
  ·split at ho <;> (simp at ho;omega)
 rcases h.parts with e | ⟨l,q,e,hl⟩
 ·exact⟨by have:=h.word;omega,hn,by rw[e];simp,by rw[e];simp,by rw[e];simp,by rw[e];decide⟩
 ·have h1:=parse_len l t.parts (by rw[e])
  have h2:=parse_sum l t.parts (by rw[e])
  have h3:∀ p∈t.parts,p.1.length≤8:=by
   unfold okT at ho
   split at ho
   ·simp at ho;rw[ho.2];simp
   ·split at ho
    ·simp at ho;exact may_names false _ ho.2
    ·simp at ho;rw[ho.2];simp
  have h4:=print_sum t.parts h3;refine⟨by have:=h.word;omega,hn,by omega,fun p hp=>by have:=h3 p hp;omega,fun p hp=>by have:=textSum_mem hp;omega,?_⟩;unfold print;rw[List.length_cons,List.length_append,List.length_singleton];omega
theorem fitl_read {s:Bs} {ts:List Tok} (h:∀ t∈ts,Read1 s.length t) (hl:ts.length≤s.length) (hs:s.length≤200):FitL ts:=⟨fun t ht=>(h t ht).ok,fun t ht=>fit_read (h t ht) hs,by omega⟩
def okN (z:Int):Prop:= -9223372036854775808≤z∧z≤9223372036854775807
inductive NumX:Ex→Prop where
 | mk {k n nm op ks}:okN n→(∀ x∈ks,NumX x)→NumX (.mk k n nm op ks)
theorem numX_kids {x:Ex} (h:NumX x):okN x.n∧∀ y∈x.kids,NumX y:=by cases h with | mk a b=>exact⟨a,b⟩
def Md.num:Md→Prop
 | .loop _ x=>NumX x
 | _=>True
theorem okN_0:okN 0:=⟨by decide,by decide⟩
theorem RdE.nums {l:List Tok} (hf:∀ t∈l,okN t.n) {m:Md} {i d:Nat} {r:Rs} (h:RdE l m i d r):∀ y j,r= .ok y j→m.num→NumX y:=by
 induction h with
 | deep=>intro y j e;cases e
 | par _ _ _ _ ih=>intro y j e _;cases e;exact ih _ _ rfl trivial
 | parOpen=>intro y j e;cases e
 | parBad=>intro y j e;cases e
 | neg _ _ _ ih=>intro y j e _;cases e;exact .mk okN_0 fun x hx=>by rw[List.mem_singleton] at hx;rw[hx];exact ih _ _ rfl trivial
 | not _ _ _ ih=>intro y j e _;cases e;exact .mk okN_0 fun x hx=>by rw[List.mem_singleton] at hx;rw[hx];exact ih _ _ rfl trivial
 | unBad=>intro y j e;cases e
 | num h1 _=>intro y j e _;cases e;exact .mk (hf _ (List.mem_of_getElem? h1)) (by simp)
 | var h1 _=>intro y j e _;cases e;exact .mk okN_0 (by simp)
 | none=>intro y j e;cases e
 | some _ _ ih1 ih2=>intro y j e _;exact ih2 _ _ e (ih1 _ _ rfl trivial)
 | someBad=>intro y j e;cases e
 | stop=>intro y j e hm;cases e;exact hm
 | opDeep=>intro y j e;cases e
 | op _ _ _ _ ih3 ih4=>
   intro y j e hm;refine ih4 _ _ e (.mk okN_0 fun x hx=>?_)
   rcases List.mem_cons.1 hx with rfl | hx
   ·exact hm
   ·rw[List.mem_singleton] at hx;rw[hx];exact ih3 _ _ rfl trivial
 | opBad=>intro y j e;cases e
theorem strong_sign {op:Bs} (h:1≤strong op):isSignL op=true:=by
 unfold strong at h
 repeat' split at h
 all_goals first | omega | (rename_i e;first | (rw[e];decide) | (rcases e with e | e | e | e <;> rw[e] <;> decide) | (rcases e with e | e | e <;> rw[e] <;> decide) | (rcases e with e | e <;> rw[e] <;> decide))
theorem okT_sign {w:Bs} (h:isSignL w=true):okT (tSign w)=true:=by unfold okT tSign;simp[mayW,h]
theorem okT_num {z:Int} (h:0≤z):okT (tNum z)=true:=by unfold okT tNum;simp[h]
theorem okT_var {w:Bs} (h:isName w=true):okT (tVar w)=true:=by unfold okT tVar;simp[mayW,h]
theorem fit_plain {t:Tok} (h1:t.parts=[]) (h2:t.word.length≤100000) (h3:okN t.n):FitT t:=⟨h2,h3,by rw[h1];simp,by rw[h1];simp,by rw[h1];simp,by rw[h1];decide⟩
theorem tokP_fit:∀ (e:Ex) (d:Nat),mayX e d=true→NumX e→∀ t∈tokP e,okT t=true∧FitT t:=by
 intro e
 induction e using Ex.ind with
 | h k n nm op ks ih=>
   intro d hm hn;have hsg:∀ w:Bs,isSignL w=true→w.length≤2→okT (tSign w)=true∧FitT (tSign w):=fun w h1 h2=>⟨okT_sign h1,fit_plain rfl (by show w.length≤_;omega) okN_0⟩
   have hx:∀ x d' m',mayX x d'=true→x∈ks→∀ t∈tokX x m',okT t=true∧FitT t:=fun x d' m' h1 h2 t ht=>by
    have hk:=ih x h2 d' h1 ((numX_kids hn).2 x h2);unfold tokX shutT at ht
    split at ht
    ·rcases List.mem_cons.1 ht with rfl | ht
     ·exact hsg _ (by decide) (by decide)
     ·rcases List.mem_append.1 ht with ht | ht
      ·exact hk t ht
      ·rw[List.mem_singleton] at ht;subst ht;exact hsg _ (by decide) (by decide)
    ·exact hk t ht
   have hnum:=(numX_kids hn).1
   rcases mayX_cases hm with ⟨n',e,h0⟩ | ⟨w,e,hw⟩ | ⟨x,e,_,h1⟩ | ⟨x,e,_,h1⟩ | ⟨op',x,y,e,h1,_,h2,h3⟩
   ·rw[e,tok_num]
    intro t ht;rw[List.mem_singleton] at ht;subst ht;have:n=n':=by simp only[exNum,Ex.mk.injEq] at e;exact e.2.1
    exact⟨okT_num h0,fit_plain rfl (by simp[tNum]) (by rw[←show (Ex.mk k n nm op ks).n=n' from this];exact hnum)⟩
   ·rw[e,tok_var]
    intro t ht;rw[List.mem_singleton] at ht;subst ht;exact⟨okT_var hw,fit_plain rfl (by have:=name_len8 hw;show w.length≤_;omega) okN_0⟩
   ·have hin:x∈ks:=by simp only[exNeg,Ex.mk.injEq] at e;rw[e.2.2.2.2];simp
    rw[e,tok_neg];intro t ht
    rcases List.mem_cons.1 ht with rfl | ht
    ·exact hsg _ (by decide) (by decide)
    ·exact hx x _ 7 h1 hin t ht
   ·have hin:x∈ks:=by simp only[exNot,Ex.mk.injEq] at e;rw[e.2.2.2.2];simp
    rw[e,tok_not];intro t ht
    rcases List.mem_cons.1 ht with rfl | ht
    ·exact hsg _ (by decide) (by decide)
    ·exact hx x _ 7 h1 hin t ht
   ·have hin:x∈ks∧y∈ks:=by simp only[exBin,Ex.mk.injEq] at e;rw[e.2.2.2.2];simp
    rw[e,tok_bin];intro t ht
    rcases List.mem_append.1 ht with ht | ht
    ·exact hx x _ _ h2 hin.1 t ht
    ·rcases List.mem_cons.1 ht with rfl | ht
     ·exact hsg _ (strong_sign h1) (strong_len h1)
     ·exact hx y _ _ h3 hin.2 t ht
theorem tokP_fitl {e:Ex} {d:Nat} (hm:mayX e d=true) (hn:NumX e) (hs:sizeX e≤300000):FitL (tokP e):=
 ⟨fun t ht=>(tokP_fit e d hm hn t ht).1,fun t ht=>(tokP_fit e d hm hn t ht).2,by have:=tokP_len e;omega⟩
theorem TkR.read {B:Nat} {w:World} {v:Value} {T:List Tok} (h:TkR B w v T):∃ A c,v= .slice A T.length c∧RdT w.heap.size w A T.length T:=by
 obtain⟨A,c,e,hr⟩:=rdt_of_own h;rw[tv_len,tv_fst] at hr;rw[tv_len] at e;exact⟨A,c,e,hr⟩
def PostK (w:World) (T:List Tok) (e:Ending) (w':World):Prop:=∃ A c,e= .returned (.tuple #[.slice A T.length c,.int .i64 0])∧RdT w'.heap.size w' A T.length T∧Below w.heap.size w w'
theorem ctok_yes (r:Ex) (A:Option Addr) (c:Nat) (w:World) (hk:KidsX (LtX w.heap.size) w A r) (hn:nmX r≤1000000) (hs:sizeX r≤300000) (hm:mayX r 0=true):
  Calls Tryz.prog 8 #[valX r A c] w (PostK w (tokP r)):=by
 have KM:Hid (∀ o,Calls Tryz.prog 11 #[valX r A c] (w.alloc o) fun e w'=>e= .returned (.bool true)∧Below (w.alloc o).heap.size (w.alloc o) w'):=Lib.hid fun o=>by rw[←hm];exact cmay_any r A c _ (hk.next (one_boxX w o)) hn (by omega)
 have KT:Hid (∀ w',Below w.heap.size w w'→Calls Tryz.prog 23 #[.slice none 0 0,valX r A c] w' (WrK w.heap.size w' (tokP r))):=Lib.hid fun w' hb=>by
  have:=apptok_any r 0 hm w.heap.size w' (.slice none 0 0) [] A c (TkR.nil _ _ hb.size) (hk.belowB hb) (by simp;omega);simpa using this
 rw[valX_eq] at KM KT ⊢;clear hk hn hs hm;go_enter Tryz.func8,Tryz.ntmps8;go_wp2_with (first | (go_at_call 11;go_must ((with_reducible refine(KM.out _).mono ?_);rintro e w1 ⟨rfl,hb1⟩;have HB1:=Lib.hid ((one_boxX w (objX r A c)).trans (hb1.mono (by simp)));have HX1:=Lib.hid ((Box5.new w 24 (.int .i64 r.kind) (.int .i64 r.n) (.string ⟨r.name.toArray⟩) (.string ⟨r.op.toArray⟩) (.slice A r.kids.length c)).low hb1);clear hb1;obtain⟨d0,d1,d2,d3,d4,_⟩:=HX1.out)) | (go_at_call 23;go_must ((with_reducible refine(KT.out _ HB1.out).mono ?_);rintro e w2 ⟨v2,rfl,ht2,hb2,_⟩)))
 go_ret2
 obtain⟨A2,c2,e2,hr2⟩:=ht2.read;subst e2;exact⟨A2,c2,rfl,hr2,HB1.out.trans hb2⟩
theorem ctok_no (r:Ex) (A:Option Addr) (c:Nat) (w:World) (hk:KidsX (LtX w.heap.size) w A r) (hn:nmX r≤1000000) (hs:sizeX r≤300000) (hm:mayX r 0=false):
  Calls Tryz.prog 8 #[valX r A c] w fun e w'=>e= .returned (.tuple #[.slice none 0 0,.int .i64 5])∧Below w.heap.size w w':=by
 have KM:Hid (∀ o,Calls Tryz.prog 11 #[valX r A c] (w.alloc o) fun e w'=>e= .returned (.bool false)∧Below (w.alloc o).heap.size (w.alloc o) w'):=Lib.hid fun o=>by rw[←hm];exact cmay_any r A c _ (hk.next (one_boxX w o)) hn (by omega)
 rw[valX_eq] at KM ⊢;clear hk hn hs hm;go_enter Tryz.func8,Tryz.ntmps8;go_wp2_with (go_at_call 11;go_must ((with_reducible refine(KM.out _).mono ?_);rintro e w1 ⟨rfl,hb1⟩;have HB1:=Lib.hid ((one_boxX w (objX r A c)).trans (hb1.mono (by simp)));clear hb1))
 go_ret2
 exact⟨rfl,HB1.out⟩
theorem cprint_yes (r:Ex) (A:Option Addr) (c:Nat) (w:World) (hk:KidsX (LtX w.heap.size) w A r) (hn:nmX r≤1000000) (hs:sizeX r≤300000) (hm:mayX r 0=true) (hx:NumX r) (hG:Given w):
  Calls Tryz.prog 9 #[valX r A c] w fun e w'=>e= .returned (.tuple #[.string (joinB (tokP r)),.int .i64 (joinE (tokP r))])∧Below w.heap.size w w':=by
 have hf:=tokP_fitl hm hx hs;have KT:Hid (∀ o,Calls Tryz.prog 8 #[valX r A c] (w.alloc o) (PostK (w.alloc o) (tokP r))):=Lib.hid fun o=>ctok_yes r A c _ (hk.next (one_boxX w o)) hn hs hm
 have KJ:Hid (∀ w' A' c',RdT w'.heap.size w' A' (tokP r).length (tokP r)→Given w'→Calls Tryz.prog 24 #[.slice A' (tokP r).length c'] w' fun e w2=>e= .returned (.tuple #[.string (joinB (tokP r)),.int .i64 (joinE (tokP r))])∧Below w'.heap.size w' w2):=Lib.hid fun w' A' c' h1 h2=>join_any A' _ c' _ w' h1 hf.len hf.fit h2
 have HG:=Lib.hid hG;generalize tokP r=T at KT KJ ⊢;generalize joinB T=JB at KJ ⊢;generalize joinE T=JE at KJ ⊢;rw[valX_eq] at KT ⊢;obtain⟨n,hn2⟩:∃ n,n=T.length:=⟨_,rfl⟩;unfold PostK at KT;rw[←hn2] at KT KJ;clear hk hn hs hm hx hG hf hn2;go_enter Tryz.func9,Tryz.ntmps9;go_wp2_with (first | (go_at_call 8;go_must ((with_reducible refine(KT.out _).mono ?_);rintro e w1 ⟨A1,c1,rfl,hr1,hb1⟩;have HB1:=Lib.hid ((one_boxX w (objX r A c)).trans (hb1.mono (by simp)));have HR1:=Lib.hid hr1;clear hb1 hr1)) | (go_at_call 24;go_must ((with_reducible refine(KJ.out _ _ _ HR1.out (HG.out.below HB1.out)).mono ?_);rintro e w2 ⟨rfl,hb2⟩)))
 go_ret2
 exact⟨rfl,HB1.out.trans (hb2.mono HB1.out.size)⟩
theorem cprint_no (r:Ex) (A:Option Addr) (c:Nat) (w:World) (hk:KidsX (LtX w.heap.size) w A r) (hn:nmX r≤1000000) (hs:sizeX r≤300000) (hm:mayX r 0=false):
  Calls Tryz.prog 9 #[valX r A c] w fun e w'=>e= .returned (.tuple #[.string ⟨#[]⟩,.int .i64 5])∧Below w.heap.size w w':=by
 have KT:Hid (∀ o,Calls Tryz.prog 8 #[valX r A c] (w.alloc o) fun e w'=>e= .returned (.tuple #[.slice none 0 0,.int .i64 5])∧Below (w.alloc o).heap.size (w.alloc o) w'):=Lib.hid fun o=>ctok_no r A c _ (hk.next (one_boxX w o)) hn hs hm
 rw[valX_eq] at KT ⊢;clear hk hn hs hm;go_enter Tryz.func9,Tryz.ntmps9;go_wp2_with (go_at_call 8;go_must ((with_reducible refine(KT.out _).mono ?_);rintro e w1 ⟨rfl,hb1⟩;have HB1:=Lib.hid ((one_boxX w (objX r A c)).trans (hb1.mono (by simp)));clear hb1))
 go_ret2
 exact⟨rfl,HB1.out⟩
def CSame (x:Ex):Prop:=∀ (y:Ex) (A A':Option Addr) (c c':Nat) (w:World),KidsX (LtX w.heap.size) w A x→KidsX (LtX w.heap.size) w A' y→sizeX x≤1000000→sizeX y≤1000000→
 Calls Tryz.prog 21 #[valX x A c,valX y A' c'] w fun e w'=>e= .returned (.bool (eqB x y))∧Below w.heap.size w w'
theorem equal_of (k n k2 n2:Int) (nm op nm2 op2:Bs) (ks ks2:List Ex) (ih:∀ x∈ks,CSame x) (A A':Option Addr) (c c':Nat) (w:World) (hk:KidsX (LtX w.heap.size) w A (.mk k n nm op ks)) (hk':KidsX (LtX w.heap.size) w A' (.mk k2 n2 nm2 op2 ks2)) (hs:sizeXL ks≤1000000) (hs':sizeXL ks2≤1000000):
  Calls Tryz.prog 38 #[.slice A ks.length c,.slice A' ks2.length c',.func (.func 21) #[] #[]] w fun e w'=>e= .returned (.bool (eqB ks ks2))∧Below w.heap.size w w':=by
 obtain⟨v,hv⟩:∃ v,v=eqB ks ks2:=⟨_,rfl⟩;rw[←hv];have HV:=Lib.hid hv;obtain⟨m,hm⟩:∃ m,m=ks.length:=⟨_,rfl⟩;obtain⟨m2,hm2⟩:∃ m,m=ks2.length:=⟨_,rfl⟩;have hmx:=sizeXL_len ks;have hm9:m≤1000000:=by omega
 rw[←hm,←hm2];have HK:=Lib.hid hk;have HK':=Lib.hid hk';have HI:=Lib.hid ih;have HS:=Lib.hid hs;have HS':=Lib.hid hs';have HM:=Lib.hid hm;have HM':=Lib.hid hm2;clear hv ih hk hk' hs hs' hm hm2 hmx;by_cases f6:m=m2
 ·have g6:((m:Int) != (m2:Int))=false:=by simp[f6]
  have g7:(m != m2)=false:=by simp[f6]
  subst f6;go_enter Tryz.func38,Tryz.ntmps38;go_wp2
  go_loopw [17] (fun i wr=>∃ j:Nat,j≤m∧i= .int .i64 j∧ks.take j=ks2.take j∧Below w.heap.size w wr) (fun i _=>m - (intOf i).toNat)
  case atStart=>exact⟨0,by omega,rfl,rfl,Below.refl _ _⟩
  case round=>
   obtain⟨j,hj,rfl,ht,hb⟩:=hrel;have HB:=Lib.hid hb;have HT:=Lib.hid ht;clear ht;by_cases a:j<m
   ·obtain⟨r,hr⟩:=getX_of_lt HM.out a
    obtain⟨r',hr'⟩:=getX_of_lt HM'.out a;obtain⟨ad,B,b,rfl,hp,h9,hkr⟩:=kidX_at HK.out hb hr;obtain⟨ad',B',b',rfl,hp',h9',hkr'⟩:=kidX_at HK'.out hb hr';have hmem:=List.mem_of_getElem? hr;have hsz1:=sizeXL_mem hmem;have hsz2:=sizeXL_mem (List.mem_of_getElem? hr')
    have K:∀ w2,Below wr.heap.size wr w2→Calls Tryz.prog 21 #[valX r B b,valX r' B' b'] w2 fun e w'=>e= .returned (.bool (eqB r r'))∧Below w2.heap.size w2 w':=fun w2 h2=>
     HI.out r hmem r' B B' b b' w2 (hkr.next (hb.trans (h2.mono hb.size))) (hkr'.next (hb.trans (h2.mono hb.size))) (by have:=HS.out;omega) (by have:=HS'.out;omega)
    obtain⟨v2,hv2⟩:∃ v2,v2=eqB r r':=⟨_,rfl⟩;rw[←hv2] at K;have HV2:=Lib.hid hv2;have HR:=Lib.hid hr;have HR':=Lib.hid hr';have hbt:(ad.add (j * 5)).block<wr.heap.size:=by rw[blockX_add];have:=hb.size;omega
    have hbt':(ad'.add (j * 5)).block<wr.heap.size:=by rw[blockX_add];have:=hb.size;omega
    clear hr hr' hv2 hkr hkr' hmem hsz1 hsz2;obtain⟨k',n',nm',op',ks1⟩:=r;obtain⟨k3,n3,nm3,op3,ks3⟩:=r';simp only[valX] at K;obtain⟨c0,c1,c2,c3,c4⟩:=h9;obtain⟨d0,d1,d2,d3,d4⟩:=h9';obtain⟨M1,hM1⟩:∃ M:ByteArray,M=⟨nm'.toArray⟩:=⟨_,rfl⟩;obtain⟨M2,hM2⟩:∃ M:ByteArray,M=⟨op'.toArray⟩:=⟨_,rfl⟩;obtain⟨M3,hM3⟩:∃ M:ByteArray,M=⟨nm3.toArray⟩:=⟨_,rfl⟩;obtain⟨M4,hM4⟩:∃ M:ByteArray,M=⟨op3.toArray⟩:=⟨_,rfl⟩;obtain⟨l1,hl1⟩:∃ l,l=ks1.length:=⟨_,rfl⟩;obtain⟨l2,hl2⟩:∃ l,l=ks3.length:=⟨_,rfl⟩;rw[←hM1,←hM2,←hM3,←hM4,←hl1,←hl2] at K;rw[←hM1] at c2;rw[←hM2] at c3;rw[←hl1] at c4;rw[←hM3] at d2;rw[←hM4] at d3;rw[←hl2] at d4;have HKC:Hid (∀ o1 o2,Calls Tryz.prog 21 #[.agg #[.int .i64 k',.int .i64 n',.string M1,.string M2,.slice B l1 b],.agg #[.int .i64 k3,.int .i64 n3,.string M3,.string M4,.slice B' l2 b']] ((wr.alloc o1).alloc o2) fun e w'=>e= .returned (.bool v2)∧Below wr.heap.size wr w'):=Lib.hid fun o1 o2=>(K _ (two_boxesX wr o1 o2)).mono fun e w' ⟨he,h2⟩=>⟨he,(two_boxesX wr o1 o2).trans (h2.mono (by simp;omega))⟩
    clear K hM1 hM2 hM3 hM4 hl1 hl2 hb hp hp'
    cases v2 with
    | true=>
      have HX:Hid (ks.take (j+1)=ks2.take (j+1)):=Lib.hid (by
       have:=eqB_of HV2.out.symm;rw[←this] at HR';exact take_eqX HT.out HR.out HR'.out)
      go_wp2_with (go_at_call 21;go_must ((with_reducible refine(HKC.out _ _).mono ?_);rintro e w4 ⟨rfl,hb4⟩))
      go_roundw
      case rel=>exact⟨j+1,by omega,by go_num,HX.out,HB.out.trans (hb4.mono HB.out.size)⟩
      case measure=>simp[intOf];omega
    | false=>
      have HX2:Hid (v=false):=Lib.hid (by rw[HV.out];exact eqB_no (not_eqX HR.out HR'.out (eqB_not HV2.out.symm)));go_wp2_with (go_at_call 21;go_must ((with_reducible refine(HKC.out _ _).mono ?_);rintro e w4 ⟨rfl,hb4⟩));go_ret;exact⟨ret_bool HX2.out.symm,HB.out.trans (hb4.mono HB.out.size)⟩
   ·have HX2:Hid (v=true):=Lib.hid (by
     rw[HV.out];have:=HT.out;rw[List.take_of_length_le (by have:=HM.out;omega),List.take_of_length_le (by have:=HM'.out;omega)] at this;exact eqB_yes this)
    clear hb;go_wp2;go_ret;exact⟨ret_bool HX2.out.symm,HB.out⟩
 ·have HX:Hid (v=false):=Lib.hid (by rw[HV.out];exact eqB_no (fun h=>f6 (by rw[HM.out,HM'.out,h])))
  have g6:((m:Int) != (m2:Int))=true:=by simp;omega
  have g7:(m != m2)=true:=by simp[f6]
  clear f6;go_enter Tryz.func38,Tryz.ntmps38;go_wp2;go_ret;exact⟨ret_bool HX.out.symm,Below.refl _ _⟩
theorem eqX_of {k n k2 n2:Int} {nm op nm2 op2:Bs} {ks ks2:List Ex} (h1:k=k2) (h2:n=n2) (h3:nm=nm2) (h4:op=op2):eqB (Ex.mk k n nm op ks) (Ex.mk k2 n2 nm2 op2 ks2)=eqB ks ks2:=by
 by_cases h:ks=ks2
 ·rw[eqB_yes h,eqB_yes (by rw[h1,h2,h3,h4,h])]
 ·rw[eqB_no h,eqB_no (fun e=>h (by injection e))]
theorem csame_any (x:Ex):CSame x:=by
 induction x using Ex.ind with
 | h k n nm op ks ih=>
   intro y A A' c c' w hk hk' hs hs';obtain⟨k2,n2,nm2,op2,ks2⟩:=y;obtain⟨v,hv⟩:∃ v,v=eqB (Ex.mk k n nm op ks) (Ex.mk k2 n2 nm2 op2 ks2):=⟨_,rfl⟩;rw[←hv];rw[sizeX] at hs hs';simp only[valX]
   have KE:Hid (∀ w',Below w.heap.size w w'→Calls Tryz.prog 38 #[.slice A ks.length c,.slice A' ks2.length c',.func (.func 21) #[] #[]] w' fun e w2=>e= .returned (.bool (eqB ks ks2))∧Below w'.heap.size w' w2):=Lib.hid fun w' hb=>
    equal_of k n k2 n2 nm op nm2 op2 ks ks2 ih A A' c c' w' (hk.next hb) (hk'.next hb) (by omega) (by omega)
   have HV:=Lib.hid hv;obtain⟨X,hX⟩:∃ X:ByteArray,X=⟨nm.toArray⟩:=⟨_,rfl⟩;obtain⟨X2,hX2⟩:∃ X:ByteArray,X=⟨nm2.toArray⟩:=⟨_,rfl⟩;obtain⟨Y,hY⟩:∃ X:ByteArray,X=⟨op.toArray⟩:=⟨_,rfl⟩;obtain⟨Y2,hY2⟩:∃ X:ByteArray,X=⟨op2.toArray⟩:=⟨_,rfl⟩;have gx:=nameX_eq hX hX2;have gy:=nameX_eq hY hY2;obtain⟨u,hu⟩:∃ u,u=eqB ks ks2:=⟨_,rfl⟩;rw[←hu] at KE;have HU:=Lib.hid hu;rw[←hX,←hX2,←hY,←hY2];generalize ks.length=m at KE ⊢;generalize ks2.length=m2 at KE ⊢;clear hv ih hk hk' hs hs' hX hX2 hY hY2 hu;by_cases f1:k=k2
   ·by_cases f2:n=n2
    ·by_cases f3:nm=nm2
     ·by_cases f4:op=op2
      ·have HX:Hid (v=u):=Lib.hid (by rw[HV.out,HU.out];exact eqX_of f1 f2 f3 f4)
       have g1:(k==k2)=true:=by simp[f1]
       have g2:(n==n2)=true:=by simp[f2]
       rw[eqB_yes f3] at gx;rw[eqB_yes f4] at gy;subst f1 f2;clear f3 f4;go_enter Tryz.func21,Tryz.ntmps21;go_wp2_with (go_at_call 38;go_must ((with_reducible refine(KE.out _ (two_boxesX w _ _)).mono ?_);rintro e w4 ⟨rfl,hb4⟩));go_ret;exact⟨ret_bool HX.out.symm,(two_boxesX w _ _).trans (hb4.mono (by simp;omega))⟩
      ·have HX:Hid (v=false):=Lib.hid (by rw[HV.out];exact eqB_no (fun h=>f4 (by injection h)))
       have g1:(k==k2)=true:=by simp[f1]
       have g2:(n==n2)=true:=by simp[f2]
       rw[eqB_yes f3] at gx;rw[eqB_no f4] at gy;subst f1 f2;clear f3 f4;go_enter Tryz.func21,Tryz.ntmps21;go_wp2;go_ret;exact⟨ret_bool HX.out.symm,two_boxesX _ _ _⟩
     ·have HX:Hid (v=false):=Lib.hid (by rw[HV.out];exact eqB_no (fun h=>f3 (by injection h)))
      have g1:(k==k2)=true:=by simp[f1]
      have g2:(n==n2)=true:=by simp[f2]
      rw[eqB_no f3] at gx;subst f1 f2;clear f3;go_enter Tryz.func21,Tryz.ntmps21;go_wp2;go_ret;exact⟨ret_bool HX.out.symm,two_boxesX _ _ _⟩
    ·have HX:Hid (v=false):=Lib.hid (by rw[HV.out];exact eqB_no (fun h=>f2 (by injection h)))
     have g1:(k==k2)=true:=by simp[f1]
     have g2:(n==n2)=false:=by simp[f2]
     subst f1;clear f2;go_enter Tryz.func21,Tryz.ntmps21;go_wp2;go_ret;exact⟨ret_bool HX.out.symm,two_boxesX _ _ _⟩
   ·have HX:Hid (v=false):=Lib.hid (by rw[HV.out];exact eqB_no (fun h=>f1 (by injection h)))
    have g1:(k==k2)=false:=by simp[f1]
    clear f1;go_enter Tryz.func21,Tryz.ntmps21;go_wp2;go_ret;exact⟨ret_bool HX.out.symm,two_boxesX _ _ _⟩
end Go.Proofs.YthghbdeaenjckaaGreatDoor
