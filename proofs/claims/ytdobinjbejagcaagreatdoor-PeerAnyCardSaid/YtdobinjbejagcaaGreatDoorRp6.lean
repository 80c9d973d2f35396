import Derived.Deep.AppendLies
import Derived.Test.YtdobinjbejagcaaGreatDoorPp2
import Derived.Test.YtdobinjbejagcaaGreatDoorRc8
import Derived.Deep.RegionHeld3
import Derived.Deep.CutRange
import Derived.Test.YtdobinjbejagcaaGreatDoorPw4
import Derived.Test.YtdobinjbejagcaaGreatDoorRm4
import Derived.Test.YtdobinjbejagcaaGreatDoorTkO
namespace Go.Proofs.YtdobinjbejagcaaGreatDoor
open Go Go.RowKit
set_option maxRecDepth 100000
set_option maxHeartbeats 8000000
section
theorem fiveP (a b c:Int) (S:ByteArray) (A:Option Addr) (n m:Nat):∀ u∈[Value.int .i64 a,.string S,.int .i64 b,.slice A n m,.int .i64 c],u.oneCell'=true:=by
 intro u hu;simp only[List.mem_cons,List.not_mem_nil,or_false] at hu
 rcases hu with rfl | rfl | rfl | rfl | rfl <;> rfl
def AppS (w W0:World) (T:List Tok) (e:Ending) (w':World):Prop:=∃ (v:Value) (q:List Tv),e= .returned v∧PrT w W0 v q T w'
theorem PrT.app {w W0 W:World} {v:Value} {q:List Tv} {T:List Tok} (h:PrT w W0 v q T W):AppS w W0 T (.returned v) W:=⟨_,q,rfl,h⟩
theorem take_snocR {α:Type} {l:List α} {k:Nat} {x:α} (h:l[k]?=some x):l.take (k+1)=l.take k++[x]:=by
 rw[List.take_succ_eq_append_getElem (List.getElem?_eq_some_iff.1 h).1,(List.getElem?_eq_some_iff.1 h).2]
section
variable {w W0 W:World} {v:Value} {q:List Tv} {T:List Tok}
theorem cappN_any (z:Int) (h:PrT w W0 v q T W) (hl:T.length≤100000):Calls Tryz.prog 43 #[v,.int .i64 z] W (AppS w W0 (T++[nmb z])):=by
 have H:=Lib.hid h;have hq:=h.len;have hql:q.length≤100000:=by omega
 obtain⟨i0,hi0,hz0,hz1,hz2⟩:=info_parts infoTk;clear h hq;go_enter Tryz.func43,Tryz.ntmps43;go_wp2_with (at_builtin;refine wpList_append_lies _ rfl (.tmp 5) (.tmp 8) 44 rfl w.heap.size 48 i0 (.agg #[.int .i64 0,.string ⟨#[]⟩,.int .i64 0,.slice none 0 0,.int .i64 0]) 5 64 Tryz.underlying44 hi0 hz0 hz1 hz2 rfl (by decide) _ q.length (cellsT q) rfl (H.out.alloc _).tk.row ⟨W.heap.size,0,none⟩ 1 1 [.int .i64 2,.string ⟨#[]⟩,.int .i64 z,.slice none 0 0,.int .i64 0] rfl (by rfl) (fun j u hu=>new_cells W 48 #[.int .i64 2,.string ⟨#[]⟩,.int .i64 z,.slice none 0 0,.int .i64 0] j u hu) (fiveP _ _ _ _ _ _ _) (by decide) (by unfold maxLen;omega) (by omega) (H.out.alloc _).tk.size _ rfl ?_;go_must (intro g cap w3 hown hgrow hat hlt;have HG:=Lib.hid (And.intro hown hgrow);clear hown hgrow hat hlt));go_ret;exact⟨_,_,rfl,(H.out.alloc _).cat [(nmb z,.slice none 0 0)] (tvP_one (nmb z) rfl) rfl (by rfl) HG.out.1 HG.out.2⟩
theorem cappS_any (s:Bs) (h:PrT w W0 v q T W) (hl:T.length≤100000):Calls Tryz.prog 45 #[v,.string ⟨s.toArray⟩] W (AppS w W0 (T++[sgn s])):=by
 have H:=Lib.hid h;have hq:=h.len;have hql:q.length≤100000:=by omega
 obtain⟨i0,hi0,hz0,hz1,hz2⟩:=info_parts infoTk;clear h hq;go_enter Tryz.func45,Tryz.ntmps45;go_wp2_with (at_builtin;refine wpList_append_lies _ rfl (.tmp 5) (.tmp 8) 44 rfl w.heap.size 48 i0 (.agg #[.int .i64 0,.string ⟨#[]⟩,.int .i64 0,.slice none 0 0,.int .i64 0]) 5 64 Tryz.underlying44 hi0 hz0 hz1 hz2 rfl (by decide) _ q.length (cellsT q) rfl (H.out.alloc _).tk.row ⟨W.heap.size,0,none⟩ 1 1 [.int .i64 4,.string ⟨s.toArray⟩,.int .i64 0,.slice none 0 0,.int .i64 0] rfl (by rfl) (fun j u hu=>new_cells W 48 #[.int .i64 4,.string ⟨s.toArray⟩,.int .i64 0,.slice none 0 0,.int .i64 0] j u hu) (fiveP _ _ _ _ _ _ _) (by decide) (by unfold maxLen;omega) (by omega) (H.out.alloc _).tk.size _ rfl ?_;go_must (intro g cap w3 hown hgrow hat hlt;have HG:=Lib.hid (And.intro hown hgrow);clear hown hgrow hat hlt));go_ret;exact⟨_,_,rfl,(H.out.alloc _).cat [(sgn s,.slice none 0 0)] (tvP_one (sgn s) rfl) rfl (by rfl) HG.out.1 HG.out.2⟩
def WordR (W:World) (g:Nat) (ws:List Bs):Prop:=W.heap[g]?=some (.cells (strsP ws).toArray 9 (0,0))
theorem WordR.at_ {g:Nat} {ws:List Bs} {W':World} (h:WordR W g ws) (hk:KepP W W') {j:Nat} {s:Bs} (hj:ws[j]?=some s):W'.cell? ⟨g,j,none⟩=some (.string ⟨s.toArray⟩)∧g<W'.heap.size:=by
 have hb:=hk.2 _ _ _ h (by decide);refine⟨?_,(Array.getElem?_eq_some_iff.1 hb).1⟩;rw[cell_of_row W' g j _ _ _ hb];unfold strsP;simp[hj]
theorem cappW_any (ws:List Bs) (g n c:Nat) (h:PrT w W0 v q T W) (hn:n=ws.length) (hw:WordR W g ws) (hl:T.length+ws.length≤100000):Calls Tryz.prog 44 #[v,.slice (some ⟨g,0,none⟩) n c] W (AppS w W0 (T++ws.map wdT)):=by
 have H:=Lib.hid h;have HW:=Lib.hid hw;have HN:=Lib.hid hn;have hln:n≤100000:=by omega
 have HL:=Lib.hid hl;obtain⟨i0,hi0,hz0,hz1,hz2⟩:=info_parts infoTk;clear h hw hn hl;go_enter Tryz.func44,Tryz.ntmps44;go_wp2
 go_loopw [0,6,9] (fun v0 _ i wr=>∃ (k:Nat) (q2:List Tv),i= .int .i64 k∧k≤n∧Hid (PrT w W0 v0 q2 (T++(ws.take k).map wdT) wr)∧Hid (KepP W wr)) (fun _ _ i _=>n - (intOf i).toNat)
 case atStart=>exact⟨0,q,rfl,by omega,Lib.hid (H.out.to (by simp)),Lib.hid (KepP.refl W)⟩
 case round=>
  obtain⟨k,q2,rfl,hk,HP,HK⟩:=hrel;by_cases a:k<n
  ·obtain⟨s,hs⟩:∃ s,ws[k]?=some s:=⟨_,List.getElem?_eq_getElem (by have:=HN.out;omega)⟩
   obtain⟨y0,hgw⟩:=HW.out.at_ HK.out hs
   have hql:q2.length≤100000:=by
    have h1:=HP.out.len;have h2:=HL.out;rw[List.length_append,List.length_map,List.length_take] at h1;omega
   have HS:=Lib.hid hs;have HAL:=Lib.hid (HP.out.alloc (.cells #[.int .i64 1,.string ⟨s.toArray⟩,.int .i64 0,.slice none 0 0,.int .i64 0] 48));clear hs;go_wp2_with (at_builtin;refine wpList_append_lies _ rfl (.tmp 13) (.tmp 16) 44 rfl w.heap.size 48 i0 (.agg #[.int .i64 0,.string ⟨#[]⟩,.int .i64 0,.slice none 0 0,.int .i64 0]) 5 64 Tryz.underlying44 hi0 hz0 hz1 hz2 rfl (by decide) _ q2.length (cellsT q2) rfl HAL.out.tk.row ⟨wr.heap.size,0,none⟩ 1 1 [.int .i64 1,.string ⟨s.toArray⟩,.int .i64 0,.slice none 0 0,.int .i64 0] rfl (by rfl) (fun j u hu=>new_cells wr 48 #[.int .i64 1,.string ⟨s.toArray⟩,.int .i64 0,.slice none 0 0,.int .i64 0] j u hu) (fiveP _ _ _ _ _ _ _) (by decide) (by unfold maxLen;omega) (by omega) HAL.out.tk.size _ rfl ?_;go_must (intro g5 cap w3 hown hgrow hat hlt;have HG:=Lib.hid (And.intro hown hgrow);clear hown hgrow hat hlt))
   go_roundw
   case rel=>
    refine⟨k+1,_,by go_num,by omega,Lib.hid ((HAL.out.cat [(wdT s,.slice none 0 0)] (tvP_one (wdT s) rfl) rfl (by rfl) HG.out.1 HG.out.2).to ?_),Lib.hid ((HK.out.trans (KepP.below (one_boxP wr _))).trans (KepP.grown HAL.out.tk.row HG.out.2))⟩;rw[List.append_assoc,take_snocR HS.out,List.map_append]
    rfl
   case measure=>simp[intOf];omega
  ·have HP2:=Lib.hid ((HP.out.to (T':=T++ws.map wdT) (by rw[List.take_of_length_le (by have:=HN.out;omega)])).app)
   go_wp2;go_ret;exact HP2.out
end
end
section
section
variable {w W0 W:World} {v:Value} {q:List Tv} {T:List Tok}
theorem cappW1 (s:Bs) (h:PrT w W0 v q T W) (hl:T.length≤90000):Calls Tryz.prog 44 #[v,.slice (some ⟨W.heap.size,0,none⟩) 1 1] (W.alloc (.cells #[.string ⟨s.toArray⟩] 9)) (AppS w W0 (T++[wdT s])):=
 cappW_any [s] W.heap.size 1 1 (h.alloc _) rfl (heap_alloc_new W _) (by simp;omega)
theorem cappW2 (s t:Bs) (h:PrT w W0 v q T W) (hl:T.length≤90000):Calls Tryz.prog 44 #[v,.slice (some ⟨W.heap.size,0,none⟩) 2 2] (W.alloc (.cells #[.string ⟨s.toArray⟩,.string ⟨t.toArray⟩] 9)) (AppS w W0 (T++[wdT s,wdT t])):=
 cappW_any [s,t] W.heap.size 2 2 (h.alloc _) rfl (heap_alloc_new W _) (by simp;omega)
theorem cappP_any (s:Bs) (h:PrT w W0 v q T W) (hl:T.length≤100000):Calls Tryz.prog 73 #[v,.string ⟨s.toArray⟩] W (AppS w W0 (T++[txt s])):=by
 obtain⟨S,hS⟩:∃ S:ByteArray,S=⟨s.toArray⟩:=⟨_,rfl⟩
 have hem:S.toList.isEmpty=decide (s=[]):=by
  rw[hS,toList_data]
  cases s with
  | nil=>rfl
  | cons a r=>rfl
 rw[←hS];have HS:=Lib.hid hS;have H:=Lib.hid h;have hq:=h.len;have hql:q.length≤100000:=by omega
 obtain⟨i0,hi0,hz0,hz1,hz2⟩:=info_parts infoTk;clear h hq hS;by_cases hs:s=[]
 ·rw[decide_eq_true hs] at hem
  have HP:Hid (txt s=⟨3,[],0,[],0⟩):=Lib.hid (by unfold txt;rw[if_pos hs]);clear hs;go_enter Tryz.func73,Tryz.ntmps73;go_wp2_with (at_builtin;refine wpList_append_lies _ rfl (.tmp 13) (.tmp 15) 44 rfl w.heap.size 48 i0 (.agg #[.int .i64 0,.string ⟨#[]⟩,.int .i64 0,.slice none 0 0,.int .i64 0]) 5 64 Tryz.underlying44 hi0 hz0 hz1 hz2 rfl (by decide) _ q.length (cellsT q) rfl ((H.out.alloc _).alloc _).tk.row ⟨W.heap.size+1,0,none⟩ 1 1 [.int .i64 3,.string ⟨#[]⟩,.int .i64 0,.slice none 0 0,.int .i64 0] rfl (by rfl) (fun j u hu=>by simpa using new_cells (W.alloc _) 48 #[.int .i64 3,.string ⟨#[]⟩,.int .i64 0,.slice none 0 0,.int .i64 0] j u hu) (fiveP _ _ _ _ _ _ _) (by decide) (by unfold maxLen;omega) (by omega) ((H.out.alloc _).alloc _).tk.size _ rfl ?_;go_must (intro g cap w3 hown hgrow hat hlt;have HG:=Lib.hid (And.intro hown hgrow);clear hown hgrow hat hlt));go_ret;exact⟨_,_,rfl,(((H.out.alloc _).alloc _).cat [(txt s,.slice none 0 0)] (tvP_one (txt s) (by rw[HP.out])) rfl (by rw[HP.out];rfl) HG.out.1 HG.out.2)⟩
 ·rw[decide_eq_false hs] at hem
  have HP:Hid (txt s=⟨3,[],0,[([],s)],0⟩):=Lib.hid (by unfold txt;rw[if_neg hs]);clear hs;go_enter Tryz.func73,Tryz.ntmps73
  go_upto_region 4 with fail
  have h1:=(one_boxP W (.cells #[.int .i64 3,.string ⟨#[]⟩,.int .i64 0,.slice (some ⟨W.heap.size+1,0,none⟩) 1 1,.int .i64 0] 48))
  have hown0:OwnP w.heap.size ((W.alloc (.cells #[.int .i64 3,.string ⟨#[]⟩,.int .i64 0,.slice (some ⟨W.heap.size+1,0,none⟩) 1 1,.int .i64 0] 48)).alloc (.cells #[.string ⟨#[]⟩,.string S] 88)) (.slice (some ⟨W.heap.size+1,0,none⟩) 1 1) (txt s).parts:=by
   rw[HP.out,HS.out];have:=own_built (W.alloc (.cells #[.int .i64 3,.string ⟨#[]⟩,.int .i64 0,.slice (some ⟨W.heap.size+1,0,none⟩) 1 1,.int .i64 0] 48)) 88 [.string ⟨#[]⟩,.string ⟨s.toArray⟩] w.heap.size 2 1 rfl (Nat.le_trans H.out.tk.size h1.size) (by unfold maxLen;omega);rw[show (W.alloc (.cells #[.int .i64 3,.string ⟨#[]⟩,.int .i64 0,.slice (some ⟨W.heap.size+1,0,none⟩) 1 1,.int .i64 0] 48)).heap.size=W.heap.size+1 by simp] at this;exact this
  have HO:=Lib.hid hown0;clear hown0 h1;go_wp2_with (at_builtin;refine wpList_append_lies _ rfl (.tmp 13) (.tmp 15) 44 rfl w.heap.size 48 i0 (.agg #[.int .i64 0,.string ⟨#[]⟩,.int .i64 0,.slice none 0 0,.int .i64 0]) 5 64 Tryz.underlying44 hi0 hz0 hz1 hz2 rfl (by decide) _ q.length (cellsT q) rfl (((H.out.alloc _).alloc _).alloc _).tk.row ⟨W.heap.size+1+1,0,none⟩ 1 1 [.int .i64 3,.string ⟨#[]⟩,.int .i64 0,.slice (some ⟨W.heap.size+1,0,none⟩) 1 1,.int .i64 0] rfl (by rfl) (fun j u hu=>by simpa using new_cells ((W.alloc (.cells #[.int .i64 3,.string ⟨#[]⟩,.int .i64 0,.slice (some ⟨W.heap.size+1,0,none⟩) 1 1,.int .i64 0] 48)).alloc (.cells #[.string ⟨#[]⟩,.string S] 88)) 48 #[.int .i64 3,.string ⟨#[]⟩,.int .i64 0,.slice (some ⟨W.heap.size+1,0,none⟩) 1 1,.int .i64 0] j u hu) (fiveP _ _ _ _ _ _ _) (by decide) (by unfold maxLen;omega) (by omega) (((H.out.alloc _).alloc _).alloc _).tk.size _ rfl ?_;go_must (intro g cap w3 hown hgrow hat hlt;have HG:=Lib.hid (And.intro hown hgrow);clear hown hgrow hat hlt));go_ret;exact⟨_,_,rfl,((((H.out.alloc _).alloc _).alloc _).cat [(txt s,.slice (some ⟨W.heap.size+1,0,none⟩) 1 1)] (fun x hx=>by rw[List.mem_singleton] at hx;subst hx;exact below_kept HO.out (one_boxP _ _)) rfl (by rw[HP.out];rfl) HG.out.1 HG.out.2)⟩
end
end
section
section
variable {w W0 W:World} {v:Value} {q:List Tv} {T:List Tok}
theorem two_boxes (W:World) (ec pc:List Value):KepP W ((W.alloc (.cells ec.toArray 39)).alloc (.cells pc.toArray 24))∧∀ W',KepP ((W.alloc (.cells ec.toArray 39)).alloc (.cells pc.toArray 24)) W'→BoxP W' W.heap.size ec∧BoxP W' (W.heap.size+1) pc:=by
 have h1:=KepP.below (one_boxP W (.cells ec.toArray 39));have h2:=KepP.below (one_boxP (W.alloc (.cells ec.toArray 39)) (.cells pc.toArray 24));refine⟨h1.trans h2,fun W' hk=>⟨(h2.trans hk).box (by decide),?_⟩⟩;have:=hk.box (T:=24) (by decide);rw[show (W.alloc (.cells ec.toArray 39)).heap.size=W.heap.size+1 by simp] at this;exact this
abbrev WdK (w U:World) (s:Bs) (b:Array UInt8):Prop:=Hid (∀ (W':World) (v:Value) (q:List Tv) (T:List Tok),PrT w U v q T W'→T.length≤90000→Calls Tryz.prog 44 #[v,.slice (some ⟨W'.heap.size,0,none⟩) 1 1] (W'.alloc (.cells #[.string ⟨b⟩] 9)) (AppS w U (T++[wdT s])))
abbrev WdD (w U:World) (s:Bs) (b:Array UInt8):Prop:=Hid (∀ (W':World) (v:Value) (q:List Tv) (T:List Tok),PrT w U v q T W'→T.length≤90000→Calls Tryz.prog 44 #[v,.slice (some ⟨W'.heap.size,0,none⟩) 1 1] (W'.alloc (.cells #[.string ⟨b⟩] 9)).drew (AppS w U (T++[wdT s])))
theorem wdD (s:Bs) {W':World} (h:PrT w W0 v q T W') (hl:T.length≤90000):Calls Tryz.prog 44 #[v,.slice (some ⟨W'.heap.size,0,none⟩) 1 1] (W'.alloc (.cells #[.string ⟨s.toArray⟩] 9)).drew (AppS w W0 (T++[wdT s])):=
 cappW_any [s] W'.heap.size 1 1 ((h.alloc _).below (Below.refl _ _).drew) rfl (heap_alloc_new W' _) (by simp;omega)
abbrev NmK (w U:World):Prop:=Hid (∀ (W':World) (v:Value) (q:List Tv) (T:List Tok) (z:Int),PrT w U v q T W'→T.length≤90000→Calls Tryz.prog 43 #[v,.int .i64 z] W' (AppS w U (T++[nmb z])))
theorem nmK (w U:World):NmK w U:=Lib.hid fun _ _ _ _ z h hl=>cappN_any z h (by omega)
theorem cappE_shut (tx:ByteArray) (lo hi tt cap:Int) (A:Option Addr) (n c:Nat) (h:PrT w W0 v q T W) (hl:T.length≤2000) (hh:hi<0→hi= -1):
  Calls Tryz.prog 46 #[v,.agg #[.int .i64 3,.string tx,.int .i64 lo,.int .i64 hi,.int .i64 tt],.agg #[.int .i64 cap,.slice A n c]] W (AppS w W0 (T++([wdT wShut]++[wdT wAfter,nmb lo,if hi<0 then wdT wEver else nmb hi]))):=by
 have KF:Hid (∀ w',Calls Tryz.prog 72 #[.int .i64 3] w' fun e w2=>e= .returned (.tuple #[.string ⟨wShut.toArray⟩,.int .i64 2])∧w'=w2):=Lib.hid fun w'=>cform_any 3 w'
 obtain⟨hk,hx⟩:=two_boxes W [.int .i64 3,.string tx,.int .i64 lo,.int .i64 hi,.int .i64 tt] [.int .i64 cap,.slice A n c];obtain⟨U,hU⟩:∃ U,U=(W.alloc (.cells #[.int .i64 3,.string tx,.int .i64 lo,.int .i64 hi,.int .i64 tt] 39)).alloc (.cells #[.int .i64 cap,.slice A n c] 24):=⟨_,rfl⟩;have hp:PrT w W0 v q T U:=by rw[hU];exact(h.alloc _).alloc _
 have HK:Hid (KepP W0 U):=Lib.hid hp.kep;have HP:=Lib.hid (hp.from (.refl U));have HX:Hid (∀ W',KepP U W'→BoxP W' W.heap.size [.int .i64 3,.string tx,.int .i64 lo,.int .i64 hi,.int .i64 tt]∧BoxP W' (W.heap.size+1) [.int .i64 cap,.slice A n c]):=Lib.hid (by rw[hU];exact hx);have KS:WdK w U wShut wShut.toArray:=Lib.hid fun _ _ _ _ h hl=>cappW1 wShut h hl
 have KA:WdD w U wAfter #[97,102,116,101,114]:=Lib.hid fun _ _ _ _ h hl=>wdD wAfter h hl
 have KE:WdK w U wEver #[101,118,101,114]:=Lib.hid fun _ _ _ _ h hl=>cappW1 wEver h hl
 have KN:=nmK w U;have HH:=Lib.hid hh;obtain⟨Z,hZ⟩:∃ Z,Z=T++([wdT wShut]++[wdT wAfter,nmb lo,if hi<0 then wdT wEver else nmb hi]):=⟨_,rfl⟩;rw[←hZ];have HZ:=Lib.hid hZ;have e0:=(HX.out _ (.refl U)).1.at_ 0 _ rfl
 clear h hp hk hx hh hZ;go_enter Tryz.func46,Tryz.ntmps46
 go_upto_region 1 with fail
 rw[←hU];clear hU;obtain⟨eb,heb⟩:∃ eb,eb=W.heap.size:=⟨_,rfl⟩;rw[←heb] at HX e0 ⊢;clear heb
 go_upto_region 2 with (go_at_call 72;go_must (((with_reducible refine(KF.out _).mono ?_));rintro e1 w1 ⟨rfl,rfl⟩))
 go_upto_region 6 with (go_at_call 44;go_must (((with_reducible refine(KS.out _ _ _ _ HP.out (by omega)).mono ?_));rintro e1 w1 ⟨v1,q1,rfl,hp1⟩;have H1:=Lib.hid hp1;clear hp1))
 clear e0;have hl1:(T++[wdT wShut]).length≤2001:=by simp;omega
 obtain⟨T1,hT1⟩:∃ T1,T1=T++[wdT wShut]:=⟨_,rfl⟩;rw[←hT1] at H1 hl1;have HT1:=Lib.hid hT1;clear hT1;have HD:=Lib.hid (H1.out.below (Below.refl _ _).drew);have x2:=(HX.out _ H1.out.kep).1.at_ 2 _ rfl
 have y2:=(HX.out _ HD.out.kep).1.at_ 2 _ rfl
 go_region_held3 (fun W'=>W'.cell? ⟨eb,2,none⟩=some (.int .i64 lo)) (first | (with_reducible exact x2) | (with_reducible exact y2) | (with_reducible exact z2) | (with_reducible exact u2) | (with_reducible exact((HX.out _ (HD.out.alloc _).kep).1.at_ 2 _ rfl)) | (with_reducible exact((HX.out _ (H1.out.alloc _).kep).1.at_ 2 _ rfl)) | (with_reducible exact((HX.out _ ((H1.out.alloc _).below (Below.refl _ _).drew).kep).1.at_ 2 _ rfl)))
  (first
   | (go_at_call 44;go_must (((with_reducible refine(KA.out _ _ _ _ H1.out (by omega)).mono ?_));rintro e2 w2 ⟨v2,q2,rfl,hp2⟩;have H2:=Lib.hid hp2;have z2:=(HX.out _ hp2.kep).1.at_ 2 _ rfl;clear hp2))
   | (go_at_call 43;go_must (((with_reducible refine(KN.out _ _ _ _ lo H2.out (by simp;omega)).mono ?_));rintro e3 w3 ⟨v3,q3,rfl,hp3⟩;have H3:=Lib.hid hp3;have u2:=(HX.out _ hp3.kep).1.at_ 2 _ rfl;clear hp3)))
 clear x2 y2 z2 u2;have u3:=(HX.out _ H3.out.kep).1.at_ 3 _ rfl
 have hl3:(T1++[wdT wAfter]++[nmb lo]).length≤2003:=by simp;omega
 by_cases hm:hi= -1
 ·have HE:Hid (T1++[wdT wAfter]++[nmb lo]++[wdT wEver]=Z):=Lib.hid (by rw[HZ.out,HT1.out,hm,if_pos (by decide)];simp)
  subst hm;go_wp2_with (go_at_call 44;go_must (((with_reducible refine(KE.out _ _ _ _ H3.out (by omega)).mono ?_));rintro e4 w4 ⟨v4,q4,rfl,hp4⟩;have H4:=Lib.hid hp4;clear hp4));go_ret;exact((H4.out.to HE.out).from (HK.out.trans H4.out.kep)).app
 ·have HE:Hid (T1++[wdT wAfter]++[nmb lo]++[nmb hi]=Z):=Lib.hid (by rw[HZ.out,HT1.out,if_neg (fun a=>hm (HH.out a))];simp)
  go_wp2_with (go_at_call 43;go_must (((with_reducible refine(KN.out _ _ _ _ hi H3.out (by omega)).mono ?_));rintro e4 w4 ⟨v4,q4,rfl,hp4⟩;have H4:=Lib.hid hp4;clear hp4));go_ret;exact((H4.out.to HE.out).from (HK.out.trans H4.out.kep)).app
theorem cappE_line (tb nb:Bs) (lo hi cap:Int) (ad:Addr) (n c j:Nat) (h:PrT w W0 v q T W) (hl:T.length≤2000) (hj:j<n) (hn:∀ W',Below w.heap.size w W'→W'.cell? (ad.add (j * 3))=some (.string ⟨nb.toArray⟩)∧(ad.add (j * 3)).block<W'.heap.size):
  Calls Tryz.prog 46 #[v,.agg #[.int .i64 2,.string ⟨tb.toArray⟩,.int .i64 lo,.int .i64 hi,.int .i64 (j:Int)],.agg #[.int .i64 cap,.slice (some ad) n c]] W (AppS w W0 (T++([wdT wLine,txt tb]++[wdT wGoto,wdT nb]))):=by
 have KF:Hid (∀ w',Calls Tryz.prog 72 #[.int .i64 2] w' fun e w2=>e= .returned (.tuple #[.string ⟨wLine.toArray⟩,.int .i64 5])∧w'=w2):=Lib.hid fun w'=>cform_any 2 w'
 obtain⟨Z,hZ⟩:∃ Z,Z=T++([wdT wLine,txt tb]++[wdT wGoto,wdT nb]):=⟨_,rfl⟩;rw[←hZ];have HZ:=Lib.hid hZ;clear hZ;obtain⟨U,hU⟩:∃ U,U=(W.alloc (.cells #[.int .i64 2,.string ⟨tb.toArray⟩,.int .i64 lo,.int .i64 hi,.int .i64 (j:Int)] 39)).alloc (.cells #[.int .i64 cap,.slice (some ad) n c] 24):=⟨_,rfl⟩;have KP:Hid (∀ (W':World) (v:Value) (q:List Tv) (T:List Tok),PrT w U v q T W'→T.length≤90000→Calls Tryz.prog 73 #[v,.string ⟨tb.toArray⟩] W' (AppS w U (T++[txt tb]))):=Lib.hid fun _ _ _ _ h hl=>cappP_any tb h (by omega)
 have KG:Hid (∀ (W':World) (v:Value) (q:List Tv) (T:List Tok),PrT w U v q T W'→T.length≤90000→Calls Tryz.prog 44 #[v,.slice (some ⟨W'.heap.size,0,none⟩) 2 2] (W'.alloc (.cells #[.string ⟨#[103,111,116,111]⟩,.string ⟨nb.toArray⟩] 9)) (AppS w U (T++[wdT wGoto,wdT nb]))):=Lib.hid fun _ _ _ _ h hl=>cappW2 wGoto nb h hl
 have HN:=Lib.hid hn;clear hn;obtain⟨tx,htx⟩:∃ tx:ByteArray,tx=⟨tb.toArray⟩:=⟨_,rfl⟩;obtain⟨nm,hnm⟩:∃ nm:ByteArray,nm=⟨nb.toArray⟩:=⟨_,rfl⟩;rw[←htx] at KP hU ⊢;rw[←hnm] at KG HN;clear htx hnm;obtain⟨hk,hx⟩:=two_boxes W [.int .i64 2,.string tx,.int .i64 lo,.int .i64 hi,.int .i64 (j:Int)] [.int .i64 cap,.slice (some ad) n c];have hp:PrT w W0 v q T U:=by rw[hU];exact(h.alloc _).alloc _
 have HK:Hid (KepP W0 U):=Lib.hid hp.kep;have HP:=Lib.hid (hp.from (.refl U));have HX:Hid (∀ W',KepP U W'→BoxP W' W.heap.size [.int .i64 2,.string tx,.int .i64 lo,.int .i64 hi,.int .i64 (j:Int)]∧BoxP W' (W.heap.size+1) [.int .i64 cap,.slice (some ad) n c]):=Lib.hid (by rw[hU];exact hx);have KS:WdK w U wLine wLine.toArray:=Lib.hid fun _ _ _ _ h hl=>cappW1 wLine h hl
 have e0:=(HX.out _ (.refl U)).1.at_ 0 _ rfl
 clear h hp hk hx;go_enter Tryz.func46,Tryz.ntmps46
 go_upto_region 1 with fail
 rw[←hU];clear hU;obtain⟨eb,heb⟩:∃ eb,eb=W.heap.size:=⟨_,rfl⟩;rw[←heb] at HX e0 ⊢;clear heb
 go_upto_region 2 with (go_at_call 72;go_must (((with_reducible refine(KF.out _).mono ?_));rintro e1 w1 ⟨rfl,rfl⟩))
 go_upto_region 4 with (go_at_call 44;go_must (((with_reducible refine(KS.out _ _ _ _ HP.out (by omega)).mono ?_));rintro e1 w1 ⟨v1,q1,rfl,hp1⟩;have H1:=Lib.hid hp1;clear hp1))
 clear e0;have e1:=(HX.out _ H1.out.kep).1.at_ 1 _ rfl
 have hl1:(T++[wdT wLine]).length≤2001:=by simp;omega
 go_upto_region 5 with (go_at_call 73;go_must (((with_reducible refine(KP.out _ _ _ _ H1.out (by omega)).mono ?_));rintro e2 w2 ⟨v2,q2,rfl,hp2⟩;have HQ:=Lib.hid hp2;clear hp2))
 clear e1;have hl2:(T++[wdT wLine]++[txt tb]).length≤2002:=by simp;omega
 have HE:Hid (T++[wdT wLine]++[txt tb]++[wdT wGoto,wdT nb]=Z):=Lib.hid (by rw[HZ.out];simp);have f4:=(HX.out _ HQ.out.kep).1.at_ 4 _ rfl
 have f1:=(HX.out _ HQ.out.kep).2.at_ 1 _ rfl
 obtain⟨g0,g1⟩:=HN.out _ HQ.out.tk.below;go_wp2_with (go_at_call 44;go_must (((with_reducible refine(KG.out _ _ _ _ HQ.out (by omega)).mono ?_));rintro e4 w4 ⟨v4,q4,rfl,hp4⟩;have H4:=Lib.hid hp4;clear hp4));go_ret;exact((H4.out.to HE.out).from (HK.out.trans H4.out.kep)).app
theorem cappE_emit (tb nb:Bs) (lo hi cap:Int) (ad:Addr) (n c j:Nat) (h:PrT w W0 v q T W) (hl:T.length≤2000) (hj:j<n) (hh:hi<0→hi= -1) (hn:∀ W',Below w.heap.size w W'→W'.cell? (ad.add (j * 3))=some (.string ⟨nb.toArray⟩)∧(ad.add (j * 3)).block<W'.heap.size):
  Calls Tryz.prog 46 #[v,.agg #[.int .i64 1,.string ⟨tb.toArray⟩,.int .i64 lo,.int .i64 hi,.int .i64 (j:Int)],.agg #[.int .i64 cap,.slice (some ad) n c]] W (AppS w W0 (T++([wdT wEmit,txt tb]++([wdT wAfter,nmb lo,if hi<0 then wdT wEver else nmb hi]++[wdT wGoto,wdT nb])))):=by
 have KF:Hid (∀ w',Calls Tryz.prog 72 #[.int .i64 1] w' fun e w2=>e= .returned (.tuple #[.string ⟨wEmit.toArray⟩,.int .i64 7])∧w'=w2):=Lib.hid fun w'=>cform_any 1 w'
 obtain⟨Z,hZ⟩:∃ Z,Z=T++([wdT wEmit,txt tb]++([wdT wAfter,nmb lo,if hi<0 then wdT wEver else nmb hi]++[wdT wGoto,wdT nb])):=⟨_,rfl⟩;rw[←hZ];have HZ:=Lib.hid hZ;clear hZ;obtain⟨U,hU⟩:∃ U,U=(W.alloc (.cells #[.int .i64 1,.string ⟨tb.toArray⟩,.int .i64 lo,.int .i64 hi,.int .i64 (j:Int)] 39)).alloc (.cells #[.int .i64 cap,.slice (some ad) n c] 24):=⟨_,rfl⟩;have KP:Hid (∀ (W':World) (v:Value) (q:List Tv) (T:List Tok),PrT w U v q T W'→T.length≤90000→Calls Tryz.prog 73 #[v,.string ⟨tb.toArray⟩] W' (AppS w U (T++[txt tb]))):=Lib.hid fun _ _ _ _ h hl=>cappP_any tb h (by omega)
 have KG:Hid (∀ (W':World) (v:Value) (q:List Tv) (T:List Tok),PrT w U v q T W'→T.length≤90000→Calls Tryz.prog 44 #[v,.slice (some ⟨W'.heap.size,0,none⟩) 2 2] (W'.alloc (.cells #[.string ⟨#[103,111,116,111]⟩,.string ⟨nb.toArray⟩] 9)) (AppS w U (T++[wdT wGoto,wdT nb]))):=Lib.hid fun _ _ _ _ h hl=>cappW2 wGoto nb h hl
 have HN:=Lib.hid hn;clear hn;obtain⟨tx,htx⟩:∃ tx:ByteArray,tx=⟨tb.toArray⟩:=⟨_,rfl⟩;obtain⟨nm,hnm⟩:∃ nm:ByteArray,nm=⟨nb.toArray⟩:=⟨_,rfl⟩;rw[←htx] at KP hU ⊢;rw[←hnm] at KG HN;clear htx hnm;obtain⟨hk,hx⟩:=two_boxes W [.int .i64 1,.string tx,.int .i64 lo,.int .i64 hi,.int .i64 (j:Int)] [.int .i64 cap,.slice (some ad) n c];have hp:PrT w W0 v q T U:=by rw[hU];exact(h.alloc _).alloc _
 have HK:Hid (KepP W0 U):=Lib.hid hp.kep;have HP:=Lib.hid (hp.from (.refl U));have HX:Hid (∀ W',KepP U W'→BoxP W' W.heap.size [.int .i64 1,.string tx,.int .i64 lo,.int .i64 hi,.int .i64 (j:Int)]∧BoxP W' (W.heap.size+1) [.int .i64 cap,.slice (some ad) n c]):=Lib.hid (by rw[hU];exact hx);have KS:WdK w U wEmit wEmit.toArray:=Lib.hid fun _ _ _ _ h hl=>cappW1 wEmit h hl
 have KA:WdD w U wAfter #[97,102,116,101,114]:=Lib.hid fun _ _ _ _ h hl=>wdD wAfter h hl
 have KE:WdK w U wEver #[101,118,101,114]:=Lib.hid fun _ _ _ _ h hl=>cappW1 wEver h hl
 have KN:=nmK w U;have HH:=Lib.hid hh;clear hh;have e0:=(HX.out _ (.refl U)).1.at_ 0 _ rfl
 clear h hp hk hx;go_enter Tryz.func46,Tryz.ntmps46
 go_upto_region 1 with fail
 rw[←hU];clear hU;obtain⟨eb,heb⟩:∃ eb,eb=W.heap.size:=⟨_,rfl⟩;rw[←heb] at HX e0 ⊢;clear heb
 go_upto_region 2 with (go_at_call 72;go_must (((with_reducible refine(KF.out _).mono ?_));rintro e1 w1 ⟨rfl,rfl⟩))
 go_upto_region 4 with (go_at_call 44;go_must (((with_reducible refine(KS.out _ _ _ _ HP.out (by omega)).mono ?_));rintro e1 w1 ⟨v1,q1,rfl,hp1⟩;have H1:=Lib.hid hp1;clear hp1))
 clear e0;have e1:=(HX.out _ H1.out.kep).1.at_ 1 _ rfl
 have hl1:(T++[wdT wEmit]).length≤2001:=by simp;omega
 go_upto_region 6 with (go_at_call 73;go_must (((with_reducible refine(KP.out _ _ _ _ H1.out (by omega)).mono ?_));rintro e2 w2 ⟨v2,q2,rfl,hp2⟩;have H2:=Lib.hid hp2;clear hp2))
 clear e1;have hl2:(T++[wdT wEmit]++[txt tb]).length≤2002:=by simp;omega
 obtain⟨T1,hT1⟩:∃ T1,T1=T++[wdT wEmit]++[txt tb]:=⟨_,rfl⟩;rw[←hT1] at H2 hl2;have HT1:=Lib.hid hT1;clear hT1;have HD:=Lib.hid (H2.out.below (Below.refl _ _).drew);have x2:=(HX.out _ H2.out.kep).1.at_ 2 _ rfl
 have y2:=(HX.out _ HD.out.kep).1.at_ 2 _ rfl
 go_region_held3 (fun W'=>W'.cell? ⟨eb,2,none⟩=some (.int .i64 lo)) (first | (with_reducible exact x2) | (with_reducible exact y2) | (with_reducible exact z2) | (with_reducible exact u2) | (with_reducible exact((HX.out _ (HD.out.alloc _).kep).1.at_ 2 _ rfl)) | (with_reducible exact((HX.out _ (H2.out.alloc _).kep).1.at_ 2 _ rfl)) | (with_reducible exact((HX.out _ ((H2.out.alloc _).below (Below.refl _ _).drew).kep).1.at_ 2 _ rfl)))
  (first
   | (go_at_call 44;go_must (((with_reducible refine(KA.out _ _ _ _ H2.out (by omega)).mono ?_));rintro e3 w3 ⟨v3,q3,rfl,hp3⟩;have H3:=Lib.hid hp3;have z2:=(HX.out _ hp3.kep).1.at_ 2 _ rfl;clear hp3))
   | (go_at_call 43;go_must (((with_reducible refine(KN.out _ _ _ _ lo H3.out (by simp;omega)).mono ?_));rintro e5 w5 ⟨v5,q5,rfl,hp5⟩;have H5:=Lib.hid hp5;have u2:=(HX.out _ hp5.kep).1.at_ 2 _ rfl;clear hp5)))
 clear x2 y2 z2 u2;have u3:=(HX.out _ H5.out.kep).1.at_ 3 _ rfl
 have hl3:(T1++[wdT wAfter]++[nmb lo]).length≤2004:=by simp;omega
 by_cases hm:hi= -1
 ·have HE:Hid (T1++[wdT wAfter]++[nmb lo]++[wdT wEver]++[wdT wGoto,wdT nb]=Z):=Lib.hid (by rw[HZ.out,HT1.out,hm,if_pos (by decide)];simp)
  have hl4:(T1++[wdT wAfter]++[nmb lo]++[wdT wEver]).length≤2005:=by simp at hl3 ⊢;omega
  subst hm
  go_upto_region 10 with (go_at_call 44;go_must (((with_reducible refine(KE.out _ _ _ _ H5.out (by omega)).mono ?_));rintro e6 w6 ⟨v6,q6,rfl,hp6⟩;have HQ:=Lib.hid hp6;clear hp6))
  have f4:=(HX.out _ HQ.out.kep).1.at_ 4 _ rfl
  have f1:=(HX.out _ HQ.out.kep).2.at_ 1 _ rfl
  obtain⟨g0,g1⟩:=HN.out _ HQ.out.tk.below;go_wp2_with (go_at_call 44;go_must (((with_reducible refine(KG.out _ _ _ _ HQ.out (by omega)).mono ?_));rintro e4 w4 ⟨v4,q4,rfl,hp4⟩;have H4:=Lib.hid hp4;clear hp4));go_ret;exact((H4.out.to HE.out).from (HK.out.trans H4.out.kep)).app
 ·have HE:Hid (T1++[wdT wAfter]++[nmb lo]++[nmb hi]++[wdT wGoto,wdT nb]=Z):=Lib.hid (by rw[HZ.out,HT1.out,if_neg (fun a=>hm (HH.out a))];simp)
  have hl4:(T1++[wdT wAfter]++[nmb lo]++[nmb hi]).length≤2005:=by simp at hl3 ⊢;omega
  go_upto_region 10 with (go_at_call 43;go_must (((with_reducible refine(KN.out _ _ _ _ hi H5.out (by omega)).mono ?_));rintro e6 w6 ⟨v6,q6,rfl,hp6⟩;have HQ:=Lib.hid hp6;clear hp6))
  have f4:=(HX.out _ HQ.out.kep).1.at_ 4 _ rfl
  have f1:=(HX.out _ HQ.out.kep).2.at_ 1 _ rfl
  obtain⟨g0,g1⟩:=HN.out _ HQ.out.tk.below;go_wp2_with (go_at_call 44;go_must (((with_reducible refine(KG.out _ _ _ _ HQ.out (by omega)).mono ?_));rintro e4 w4 ⟨v4,q4,rfl,hp4⟩;have H4:=Lib.hid hp4;clear hp4));go_ret;exact((H4.out.to HE.out).from (HK.out.trans H4.out.kep)).app
end
end
theorem tNAt {w:World} {A:Option Addr} {n:Nat} {xs:List PlP} (hR:RdX w.heap.size w A n xs) {z:Int} (h0:0≤z) (h1:z<xs.length):∃ (ad:Addr) (j:Nat),A=some ad∧z=(j:Int)∧j<n∧∀ W',Below w.heap.size w W'→W'.cell? (ad.add (j * 3))=some (.string ⟨((xs.map (·.name))[z.toNat]?.getD []).toArray⟩)∧(ad.add (j * 3)).block<W'.heap.size:=by
 obtain⟨j,rfl⟩:=Int.eq_ofNat_of_zero_le h0;have hj:j<xs.length:=by omega
 obtain⟨ad,A',c',rfl,had,hat, -⟩:=hR.at_ (List.getElem?_eq_getElem hj)
 refine⟨ad,j,rfl,rfl,by rw[hR.1];exact hj,fun W' hb=>?_⟩;have hbl:(ad.add (j * 3)).block<w.heap.size:=by rw[block_of_add];exact had
 obtain⟨a0, -, -⟩:=hat.keep hbl hb;refine⟨?_,Nat.lt_of_lt_of_le hbl hb.size⟩;rw[Int.toNat_natCast,List.getElem?_map,List.getElem?_eq_getElem hj];exact a0
theorem mayTimes_ever {e:EdP} (h:mayTimes e=true):e.hi<0→e.hi= -1:=by
 intro hh;unfold mayTimes at h;simp only[Bool.and_eq_true,Bool.or_eq_true,decide_eq_true_eq] at h;omega
theorem mayTo_in {n:Nat} {e:EdP} (h:mayTo n e=true):0≤e.to∧e.to<n:=by
 unfold mayTo at h;simpa using h
theorem cappE_any (p:PeP) (e:EdP) (A:Option Addr) (n c:Nat) {w W0 W:World} {v:Value} {q:List Tv} {T:List Tok} (h:PrT w W0 v q T W) (hl:T.length≤2000) (hR:RdX w.heap.size w A n p.places) (hm:mayEd p e=true):
  Calls Tryz.prog 46 #[v,.agg #[.int .i64 e.kind,.string ⟨e.text.toArray⟩,.int .i64 e.lo,.int .i64 e.hi,.int .i64 e.to],.agg #[.int .i64 p.cap,.slice A n c]] W (AppS w W0 (T++tokEd (p.places.map (·.name)) e)):=by
 unfold mayEd at hm;unfold tokEd tokDl toN;by_cases k1:e.kind=1
 ·rw[if_pos k1] at hm ⊢
  simp only[Bool.and_eq_true] at hm;obtain⟨t0,t1⟩:=mayTo_in hm.2.1;obtain⟨ad,j,rfl,hj,hjn,hat⟩:=tNAt hR t0 t1;have:=cappE_emit e.text _ e.lo e.hi p.cap ad n c j h hl hjn (mayTimes_ever hm.1) hat;rw[k1];rw[←hj] at this;exact this
 ·by_cases k2:e.kind=2
  ·rw[if_neg k1,if_pos k2] at hm ⊢
   simp only[Bool.and_eq_true] at hm;obtain⟨t0,t1⟩:=mayTo_in hm.2.2.1;obtain⟨ad,j,rfl,hj,hjn,hat⟩:=tNAt hR t0 t1;have:=cappE_line e.text _ e.lo e.hi p.cap ad n c j h hl hjn hat;rw[k2];rw[←hj] at this;exact this
  ·rw[if_neg k1,if_neg k2] at hm ⊢
   simp only[Bool.and_eq_true,decide_eq_true_eq] at hm;rw[hm.1];exact cappE_shut ⟨e.text.toArray⟩ e.lo e.hi e.to p.cap A n c h hl (mayTimes_ever hm.2.1)
abbrev WtK (w U:World) (s t:Bs) (a b:ByteArray):Prop:=Hid (∀ (W':World) (v:Value) (q:List Tv) (T:List Tok),PrT w U v q T W'→T.length≤90000→Calls Tryz.prog 44 #[v,.slice (some ⟨W'.heap.size,0,none⟩) 2 2] (W'.alloc (.cells #[.string a,.string b] 9)) (AppS w U (T++[wdT s,wdT t])))
abbrev SgK (w U:World) (s:Bs) (b:Array UInt8):Prop:=Hid (∀ (W':World) (v:Value) (q:List Tv) (T:List Tok),PrT w U v q T W'→T.length≤90000→Calls Tryz.prog 45 #[v,.string ⟨b⟩] W' (AppS w U (T++[sgn s])))
def ToksR (p:PeP) (w:World) (e:Ending) (w':World):Prop:=∃ (v:Value) (q:List Tv),e= .returned v∧Tks w.heap.size w w' v q∧q.map (·.1)=tokPe p
theorem ctokens_any (p:PeP) (A:Option Addr) (n c:Nat) (w:World) (h:RdX w.heap.size w A n p.places) (hm:mayPe p=true):
  Calls Tryz.prog 17 #[.agg #[.int .i64 p.cap,.slice A n c]] w (ToksR p w):=by
 have HMP:=Lib.hid (mayPe_parts hm);have HR:=Lib.hid h;have KE:Hid (∀ (U W':World) (v:Value) (q:List Tv) (T:List Tok) (e:EdP),PrT w U v q T W'→T.length≤2000→mayEd p e=true→Calls Tryz.prog 46 #[v,.agg #[.int .i64 e.kind,.string ⟨e.text.toArray⟩,.int .i64 e.lo,.int .i64 e.hi,.int .i64 e.to],.agg #[.int .i64 p.cap,.slice A n c]] W' (AppS w U (T++tokEd (p.places.map (·.name)) e))):=Lib.hid fun U W' v q T e h1 h2 h3=>cappE_any p e A n c h1 h2 h h3
 obtain⟨W0,hW0⟩:∃ W0,W0=w.alloc (.cells #[.int .i64 p.cap,.slice A n c] 24):=⟨_,rfl⟩;have HB0:Hid (Below w.heap.size w W0):=Lib.hid (by rw[hW0];exact one_boxP w _);have HX:Hid (∀ W',KepP W0 W'→BoxP W' w.heap.size [.int .i64 p.cap,.slice A n c]):=Lib.hid fun W' hk=>by rw[hW0] at hk;exact hk.box (by decide)
 obtain⟨cp,hcp⟩:∃ cp,cp=p.cap:=⟨_,rfl⟩;have HCP:=Lib.hid hcp;rw[←hcp] at HX hW0 KE ⊢;have HC:Hid (PrT w W0 (.slice none 0 0) [] [] W0):=Lib.hid ⟨⟨World.ownsRow_nil _ _ _ _,by simp,HB0.out,HB0.out.size⟩,.refl _,rfl⟩;have KC:WdD w W0 wCap #[99,97,112]:=Lib.hid fun _ _ _ _ h hl=>wdD wCap h hl
 have KN:=nmK w W0;obtain⟨pb,hpb⟩:∃ pb,pb=w.heap.size:=⟨_,rfl⟩;have x0:=(HX.out W0 (.refl _)).at_ 0 _ rfl
 have y0:=(HX.out W0.drew (KepP.below (Below.refl _ _).drew)).at_ 0 _ rfl
 clear h hm hcp;go_enter Tryz.func17,Tryz.ntmps17
 go_upto_region 1 with fail
 rw[←hW0];clear hW0
 go_region_held3 (fun W'=>W'.cell? ⟨w.heap.size,0,none⟩=some (.int .i64 cp)) (first | (with_reducible exact x0) | (with_reducible exact y0) | (with_reducible exact z0) | (with_reducible exact u0) | (with_reducible exact((HX.out _ ((HC.out.alloc _).below (Below.refl _ _).drew).kep).at_ 0 _ rfl)) | (with_reducible exact((HX.out _ (HC.out.alloc _).kep).at_ 0 _ rfl)))
  (first
   | (go_at_call 44;go_must (((with_reducible refine(KC.out _ _ _ _ HC.out (by simp)).mono ?_));rintro e1 w1 ⟨v1,q1,rfl,hp1⟩;have H1:=Lib.hid hp1;have z0:=(HX.out _ hp1.kep).at_ 0 _ rfl;clear hp1))
   | (go_at_call 43;go_must (((with_reducible refine(KN.out _ _ _ _ cp H1.out (by simp)).mono ?_));rintro e2 w2 ⟨v2,q2,rfl,hp2⟩;have H2:=Lib.hid hp2;have u0:=(HX.out _ hp2.kep).at_ 0 _ rfl;clear hp2)))
 clear x0 y0 z0 u0 H1;have x1:=(HX.out _ H2.out.kep).at_ 1 _ rfl
 obtain⟨T0,hT0⟩:∃ T0,T0=([]:List Tok)++[wdT wCap]++[nmb cp]:=⟨_,rfl⟩;rw[←hT0] at H2;have HT0:=Lib.hid hT0;have HL0:Hid (T0.length=2):=Lib.hid (by rw[hT0];rfl);clear hT0;obtain⟨ns,hns⟩:∃ ns,ns=p.places.map (·.name):=⟨_,rfl⟩;have HNS:=Lib.hid hns;rw[←hns] at KE;clear hns;have HN:=Lib.hid HR.out.1;have hn16:n≤16:=by rw[HN.out];exact HMP.out.2.2.2.1
 go_upto_region 3 with fail
 clear x1
 go_loopg [3,16] n (fun M v3 v16 wr=>∃ (i:Nat) (q:List Tv),v16= .int .i64 i∧Hid (i≤n∧M=n - i)∧Hid (PrT w W0 v3 q (T0++(p.places.take i).flatMap (tokPl ns)) wr))
 case atStart=>exact⟨0,q2,rfl,Lib.hid ⟨Nat.zero_le _,rfl⟩,Lib.hid (H2.out.to (by simp))⟩
 case round=>
  obtain⟨i,q,rfl,HI,HP⟩:=hrel;have hin:=HI.out.1;by_cases hlt:i<n
  ·obtain⟨x,hx⟩:∃ x,p.places[i]?=some x:=⟨_,List.getElem?_eq_getElem (by have:=HN.out;omega)⟩
   have HXI:=Lib.hid hx;obtain⟨ad,A',c',rfl,had,hat,hrd⟩:=HR.out.at_ hx
   have HRD:=Lib.hid hrd;obtain⟨a0,a1,a2⟩:=hat.keep (by rw[block_of_add];exact had) HP.out.tk.below;clear hat had;obtain⟨nm,hnm⟩:∃ nm:ByteArray,nm=⟨x.name.toArray⟩:=⟨_,rfl⟩;obtain⟨m,hm⟩:∃ m,m=x.edges.length:=⟨_,rfl⟩;have HME:=Lib.hid hm;have hm8:m≤8:=by rw[hm];exact HMP.out.2.2.2.2.1 x (List.mem_of_getElem? hx)
   rw[←hnm] at a0;rw[←hm] at a2;obtain⟨ec,hec⟩:∃ ec,ec=x.echo:=⟨_,rfl⟩;have HEC:=Lib.hid hec;rw[←hec] at a1;obtain⟨W1,hW1⟩:∃ W1,W1=wr.alloc (.cells #[.string nm,.bool ec,.slice A' m c'] 42):=⟨_,rfl⟩;have hb1:Below wr.heap.size wr W1:=by rw[hW1];exact one_boxP _ _
   have HP1:=Lib.hid ((HP.out.below hb1).from (.refl W1));have HK1:=Lib.hid (HP.out.kep.trans (.below hb1));have HX1:Hid (∀ W',KepP W1 W'→BoxP W' wr.heap.size [.string nm,.bool ec,.slice A' m c']):=Lib.hid fun W' hk=>by rw[hW1] at hk;exact hk.box (by decide)
   have KAt:WtK w W1 wAt x.name ⟨#[97,116]⟩ nm:=Lib.hid (by rw[hnm];exact fun _ _ _ _ h hl=>cappW2 wAt x.name h hl);have KEc:WdK w W1 wEcho #[101,99,104,111]:=Lib.hid fun _ _ _ _ h hl=>cappW1 wEcho h hl
   have KO:SgK w W1 [123] #[123]:=Lib.hid fun _ _ _ _ h hl=>cappS_any [123] h (by omega)
   have KCl:SgK w W1 [125] #[125]:=Lib.hid fun _ _ _ _ h hl=>cappS_any [125] h (by omega)
   clear hx hrd hnm hm hec hb1;have hlti:(i:Int)<(n:Int):=by omega
   go_upto_region 5 with fail
   rw[←hW1];clear hW1 a0 a1 a2;obtain⟨xb,hxb⟩:∃ xb,xb=wr.heap.size:=⟨_,rfl⟩;rw[←hxb] at HX1 ⊢;clear hxb;obtain⟨T,hT⟩:∃ T,T=T0++(p.places.take i).flatMap (tokPl ns):=⟨_,rfl⟩;rw[←hT] at HP1;have HTT:=Lib.hid hT
   have hTl:T.length≤978:=by
    rw[hT,List.length_append,HL0.out];have:=plsT_le ns p.places i (by rw[←HN.out];exact hn16) HMP.out.2.2.2.2.1;omega
   clear hT HP;have y0:=(HX1.out _ (.refl _)).at_ 0 _ rfl
   go_upto_region 6 with (go_at_call 44;go_must (((with_reducible refine(KAt.out _ _ _ _ HP1.out (by omega)).mono ?_));rintro e3 w3 ⟨v3,q3,rfl,hp3⟩;have H3:=Lib.hid hp3;clear hp3))
   clear y0;have y1:=(HX1.out _ H3.out.kep).at_ 1 _ rfl
   have hl3:(T++[wdT wAt,wdT x.name]).length≤980:=by simp;omega
   go_upto_if 26 with fail
   go_cut [3,16] from 16 to 46 (fun v3 v16 wx=>v16= .int .i64 i∧∃ q3,Hid (PrT w W1 v3 q3 (T++[wdT wAt,wdT x.name]++(if x.echo then [wdT wEcho] else [])) wx))
   case first=>
    cases ec with
    | true=>
      go_wp2_with (go_at_call 44;go_must (((with_reducible refine(KEc.out _ _ _ _ H3.out (by omega)).mono ?_));rintro e4 w4 ⟨v4,q4,rfl,hp4⟩;have H4:=Lib.hid hp4;clear hp4))
      go_meet
      exact⟨rfl,_,Lib.hid (H4.out.to (by rw[←HEC.out,if_pos rfl]))⟩
    | false=>
      go_wp2
      go_meet
      exact⟨rfl,_,Lib.hid (H3.out.to (by rw[←HEC.out];simp))⟩
   case rest=>
    obtain⟨rfl,q4,H4⟩:=hcut;clear y1 H3
    have hl4:(T++[wdT wAt,wdT x.name]++(if x.echo then [wdT wEcho] else [])).length≤981:=by
     have h2:(if x.echo then [wdT wEcho] else ([]:List Tok)).length≤1:=by split <;> simp
     rw[List.length_append];omega
    go_upto_region 9 with (go_at_call 45;go_must (((with_reducible refine(KO.out _ _ _ _ H4.out (by omega)).mono ?_));rintro e5 w5 ⟨v5,q5,rfl,hp5⟩;have H5:=Lib.hid hp5;clear hp5))
    obtain⟨T2,hT2⟩:∃ T2,T2=T++[wdT wAt,wdT x.name]++(if x.echo then [wdT wEcho] else [])++[sgn [123]]:=⟨_,rfl⟩;have HQ2:Hid (PrT w W1 v5 q5 T2 w5):=Lib.hid (H5.out.to (by rw[hT2]));have HT2:=Lib.hid hT2;have hT2l:T2.length≤982:=by rw[hT2,List.length_append,List.length_cons,List.length_nil];omega
    clear hT2 H5 hl4 hl3;have y2:=(HX1.out _ HQ2.out.kep).at_ 2 _ rfl
    go_upto_region 10 with fail
    clear y2
    go_loopg [3,35] m (fun M v3 v35 wr=>∃ (k:Nat) (q:List Tv),v35= .int .i64 k∧Hid (k≤m∧M=m - k)∧Hid (PrT w W1 v3 q (T2++(x.edges.take k).flatMap (tokEd ns)) wr))
    case atStart=>exact⟨0,_,rfl,Lib.hid ⟨Nat.zero_le _,rfl⟩,Lib.hid (HQ2.out.to (by simp))⟩
    case round=>
     obtain⟨k,q,rfl,HI2,HP⟩:=hrel;have hkm:=HI2.out.1
     have hql:(T2++(x.edges.take k).flatMap (tokEd ns)).length≤1038:=by
      have:=edsT_le ns x.edges k (by rw[←HME.out];exact hm8);rw[List.length_append];omega
     by_cases hkl:k<m
     ·obtain⟨e,he⟩:∃ e,x.edges[k]?=some e:=⟨_,List.getElem?_eq_getElem (by have:=HME.out;omega)⟩
      have HE:=Lib.hid he;obtain⟨ad2,rfl,had2,hat2⟩:=HRD.out.at_ he
      obtain⟨b0,b1,b2,b3,b4⟩:=hat2.keep (by rw[block_of_add];exact had2) HP.out.tk.below;have HME2:=Lib.hid (HMP.out.2.2.2.2.2 x (List.mem_of_getElem? HXI.out) e (List.mem_of_getElem? he));have KE2:Hid (∀ (U W':World) (v:Value) (q:List Tv) (T:List Tok),PrT w U v q T W'→T.length≤2000→Calls Tryz.prog 46 #[v,.agg #[.int .i64 e.kind,.string ⟨e.text.toArray⟩,.int .i64 e.lo,.int .i64 e.hi,.int .i64 e.to],.agg #[.int .i64 cp,.slice (some ad) n c]] W' (AppS w U (T++tokEd ns e))):=Lib.hid fun U W' v q T h1 h2=>KE.out U W' v q T e h1 h2 HME2.out
      obtain⟨tb,htb⟩:∃ tb:ByteArray,tb=⟨e.text.toArray⟩:=⟨_,rfl⟩;obtain⟨kd,hkd⟩:∃ kd,kd=e.kind:=⟨_,rfl⟩;obtain⟨lo,hlo⟩:∃ kd,kd=e.lo:=⟨_,rfl⟩;obtain⟨hi,hhi⟩:∃ kd,kd=e.hi:=⟨_,rfl⟩;obtain⟨tt,htt⟩:∃ kd,kd=e.to:=⟨_,rfl⟩;rw[←htb] at b1;rw[←hkd] at b0;rw[←hlo] at b2;rw[←hhi] at b3;rw[←htt] at b4;rw[←htb,←hkd,←hlo,←hhi,←htt] at KE2;obtain⟨W2,hW2⟩:∃ W2,W2=wr.alloc (.cells #[.int .i64 kd,.string tb,.int .i64 lo,.int .i64 hi,.int .i64 tt] 39):=⟨_,rfl⟩;have hb2:Below wr.heap.size wr W2:=by rw[hW2];exact one_boxP _ _
      have HQ0:=Lib.hid ((HP.out.below hb2).from (.refl W2));have HK2:=Lib.hid (HP.out.kep.trans (.below hb2));obtain⟨c0,c1,c2,c3,c4⟩:=(show BoxP W2 wr.heap.size [.int .i64 kd,.string tb,.int .i64 lo,.int .i64 hi,.int .i64 tt] by rw[hW2];exact BoxP.new wr _ _).all5;obtain⟨z0,z1⟩:=(HX.out W2 (HK1.out.trans HK2.out)).all2;clear he had2 hat2 htb hkd hlo hhi htt hb2 KE;have hkl2:(k:Int)<(m:Int):=by omega
      go_upto_region 12 with fail
      rw[←hW2];clear hW2 b0 b1 b2 b3 b4;obtain⟨eb,heb⟩:∃ eb,eb=wr.heap.size:=⟨_,rfl⟩;rw[←heb] at c0 c1 c2 c3 c4 ⊢;clear heb;go_wp2_with (go_at_call 46;go_must (((with_reducible refine(KE2.out _ _ _ _ _ HQ0.out (by omega)).mono ?_));rintro e6 w6 ⟨v6,q6,rfl,hp6⟩;have H6:=Lib.hid hp6;clear hp6))
      go_roundg (m - (k+1))
      case measure=>have:=HI2.out.2;omega
      case rel=>exact⟨k+1,_,by go_num,Lib.hid ⟨by omega,rfl⟩,Lib.hid ((H6.out.from (HK2.out.trans H6.out.kep)).to (by rw[take_flat _ HE.out];simp))⟩
     ·have hkl2:¬ (k:Int)<(m:Int):=by omega
      go_wp2_with (go_at_call 45;go_must (((with_reducible refine(KCl.out _ _ _ _ HP.out (by omega)).mono ?_));rintro e6 w6 ⟨v6,q6,rfl,hp6⟩;have H6:=Lib.hid hp6;clear hp6))
      go_roundg (n - (i+1))
      case measure=>have:=HI.out.2;omega
      case rel=>exact⟨i+1,_,by go_num,Lib.hid ⟨by omega,rfl⟩,Lib.hid ((H6.out.from (HK1.out.trans H6.out.kep)).to (by rw[take_flat _ HXI.out,HT2.out,HTT.out,take_flat_all (l:=x.edges) (tokEd ns) (by rw[←HME.out];exact hkl),tokPl];simp))⟩
  ·have hts:q.map (·.1)=tokPe p:=by rw[HP.out.is,take_flat_all _ (by rw[←HN.out];exact hlt),HT0.out,HNS.out,HCP.out];rfl
   have HTS:=Lib.hid hts;clear hts;have hlt2:¬ (i:Int)<(n:Int):=by omega
   go_wp2;go_ret;exact⟨_,q,rfl,⟨HP.out.tk.row,HP.out.tk.parts,HP.out.tk.below,HP.out.tk.size⟩,HTS.out⟩
theorem cprint_no (p:PeP) (A:Option Addr) (n c:Nat) (w:World) (h:RdX w.heap.size w A n p.places) (hc:n≤c) (hs:smallPe p=true) (hG:Given w) (hm:mayPe p=false):
  Calls Tryz.prog 8 #[.agg #[.int .i64 p.cap,.slice A n c]] w fun r w'=>r= .returned (.tuple #[.string ⟨(outText p).toArray⟩,.int .i64 (errPe p)])∧Below w.heap.size w w':=by
 have e1:outText p=[]:=if_neg (by rw[hm];simp);have e2:errPe p=5:=if_neg (by rw[hm];simp);rw[e1,e2]
 have KM:Hid (Calls Tryz.prog 10 #[.agg #[.int .i64 p.cap,.slice A n c]] (w.alloc (.cells #[.int .i64 p.cap,.slice A n c] 24)) fun r w'=>r= .returned (.bool false)∧Below (w.alloc (.cells #[.int .i64 p.cap,.slice A n c] 24)).heap.size (w.alloc (.cells #[.int .i64 p.cap,.slice A n c] 24)) w'):=Lib.hid (by
  obtain rfl:=h.1;have:=cmay_any p A c (w.alloc (.cells #[.int .i64 p.cap,.slice A p.places.length c] 24)) (h.next (one_boxP w _)) hc (smallPe_fit hs) (hG.below (one_boxP w _));rw[hm] at this;exact this)
 clear h hs hm e1 e2 hc hG;go_enter Tryz.func8,Tryz.ntmps8;go_wp2_with (go_at_call 10;((with_reducible refine(KM.out).mono ?_));rintro e w1 ⟨rfl,hb⟩;have HB1:=Lib.hid ((one_boxP w _).trans (hb.mono (one_boxP w _).size));clear hb)
 go_ret2
 exact⟨rfl,HB1.out⟩
theorem join_pe {p:PeP} (hm:mayPe p=true):joinE (tokPe p)=(if 2000<(textPe p).length then 2 else 0)∧joinB (tokPe p)=(if 2000<(textPe p).length then ⟨#[]⟩ else ⟨(textPe p).toArray⟩):=by
 have hok:(tokPe p).all okT=true:=List.all_eq_true.2 fun t ht=>(okN_pe hm t ht).1
 have ht:textPe p=joinT (tokPe p):=rfl;unfold joinE joinB;rw[if_pos hok,ht];refine⟨rfl,?_⟩;by_cases l:2000<(joinT (tokPe p)).length
 ·rw[if_neg (fun h=>h.2 l),if_pos l]
 ·rw[if_pos ⟨hok,l⟩,if_neg l]
theorem cprint_yes (p:PeP) (A:Option Addr) (n c:Nat) (w:World) (h:RdX w.heap.size w A n p.places) (hc:n≤c) (hs:smallPe p=true) (hG:Given w) (hm:mayPe p=true):
  Calls Tryz.prog 8 #[.agg #[.int .i64 p.cap,.slice A n c]] w fun r w'=>r= .returned (.tuple #[.string ⟨(outText p).toArray⟩,.int .i64 (errPe p)])∧Below w.heap.size w w':=by
 obtain⟨W0,hW0⟩:∃ W0,W0=w.alloc (.cells #[.int .i64 p.cap,.slice A n c] 24):=⟨_,rfl⟩;have hb0:Below w.heap.size w W0:=by rw[hW0];exact one_boxP w _
 have HB0:=Lib.hid hb0;have HX:Hid (∀ W',Below W0.heap.size W0 W'→BoxP W' w.heap.size [.int .i64 p.cap,.slice A n c]):=Lib.hid fun W' hk=>by rw[hW0] at hk;exact(KepP.below hk).box (by decide)
 have KM:Hid (Calls Tryz.prog 10 #[.agg #[.int .i64 p.cap,.slice A n c]] W0 fun r w'=>r= .returned (.bool true)∧Below W0.heap.size W0 w'):=Lib.hid (by
  obtain rfl:=h.1;have:=cmay_any p A c W0 (h.next hb0) hc (smallPe_fit hs) (hG.below hb0);rw[hm] at this;exact this)
 have KT:Hid (∀ W',Below w.heap.size w W'→Calls Tryz.prog 17 #[.agg #[.int .i64 p.cap,.slice A n c]] W' (ToksR p W')):=Lib.hid fun W' hb=>ctokens_any p A n c W' (h.next hb) hm
 have HG:=Lib.hid hG;have HLT:=Lib.hid (lit_pe hs hm);have HJ:=Lib.hid (join_pe hm);have hmp:=mayPe_parts hm
 have HTL:Hid ((tokPe p).length≤1000):=Lib.hid (by
  have:=plsT_le (p.places.map (·.name)) p.places p.places.length hmp.2.2.2.1 hmp.2.2.2.2.1;rw[List.take_length] at this;unfold tokPe;rw[List.length_append,List.length_cons,List.length_cons,List.length_nil];omega)
 have HE1:Hid (errPe p=if 1000<(textPe p).length then 2 else 0):=Lib.hid (by unfold errPe;rw[if_pos hm])
 have HE2:Hid ((⟨(outText p).toArray⟩:ByteArray)=if 1000<(textPe p).length then ⟨#[]⟩ else ⟨(textPe p).toArray⟩):=Lib.hid (by
  unfold outText;by_cases l:1000<(textPe p).length
  ·rw[if_neg (fun q=>q.2 l),if_pos l]
  ·rw[if_pos ⟨hm,l⟩,if_neg l])
 obtain⟨cp,hcp⟩:∃ cp,cp=p.cap:=⟨_,rfl⟩;rw[←hcp] at HX hW0 KM KT ⊢;obtain⟨x0,x1⟩:=(HX.out W0 (.refl _ _)).all2;clear h hc hs hG hm hmp hcp hb0;go_enter Tryz.func8,Tryz.ntmps8
 go_upto_region 1 with fail
 rw[←hW0];clear hW0
 go_upto_region 3 with (go_at_call 10;go_must (((with_reducible refine(KM.out).mono ?_));rintro e w1 ⟨rfl,hb⟩;have HB1:=Lib.hid (HB0.out.trans (hb.mono HB0.out.size));clear x0 x1;obtain⟨x0,x1⟩:=(HX.out w1 hb).all2;clear hb))
 have KJ:Hid (∀ W' A' c',Below w.heap.size w W'→RdT W'.heap.size W' A' (tokPe p).length (tokPe p)→Calls Tryz.prog 16 #[.slice A' (tokPe p).length c'] W' fun e w2=>e= .returned (.tuple #[.string (joinB (tokPe p)),.int .i64 (joinE (tokPe p))])∧Below W'.heap.size W' w2):=Lib.hid fun W' A' c' hb hr=>join_any A' _ c' _ W' hr (by have:=HTL.out;omega) (fun t ht=>(HLT.out t ht).1) (HG.out.below hb)
 obtain⟨jb,hjb⟩:∃ jb,jb=joinB (tokPe p):=⟨_,rfl⟩;obtain⟨je,hje⟩:∃ je,je=joinE (tokPe p):=⟨_,rfl⟩;rw[←hjb,←hje] at KJ HJ;clear hjb hje;obtain⟨ln,hln⟩:∃ ln,ln=(tokPe p).length:=⟨_,rfl⟩;have HLN:=Lib.hid hln;rw[←hln] at KJ;clear hln
 go_upto_region 4 with (first
  | (go_at_call 17;go_must (((with_reducible refine(KT.out _ HB1.out).mono ?_));rintro e w2 ⟨v2,q2,rfl,ht2,hm2⟩;obtain⟨Ao,co,rfl,hro⟩:=rdt_of_own ht2;rw[hm2] at hro;have hq2:q2.length=ln:=(by rw[HLN.out,←hm2,List.length_map]);rw[hq2] at hro ⊢;have HRO:=Lib.hid hro;have HB2:=Lib.hid (HB1.out.trans (ht2.below.mono HB1.out.size));clear ht2 hro hm2 hq2))
  | (go_at_call 16;go_must (((with_reducible refine(KJ.out _ _ _ HB2.out HRO.out).mono ?_));rintro e w3 ⟨rfl,hb⟩;have HB3:=Lib.hid (HB2.out.trans (hb.mono HB2.out.size));clear hb)))
 clear x0 x1;by_cases l2:2000<(textPe p).length
 ·have e1:errPe p=2:=by rw[HE1.out,if_pos (by omega)]
  have e2:(⟨(outText p).toArray⟩:ByteArray)=⟨#[]⟩:=by rw[HE2.out,if_pos (by omega)]
  obtain⟨j1,j2⟩:=HJ.out;rw[if_pos l2] at j1 j2;have E1:=Lib.hid e1;have E2:=Lib.hid e2;clear HJ HE1 HE2 KJ l2 e1 e2;subst j1 j2;go_wp2
  go_ret2
  exact⟨ret_sj E2.out E1.out,HB3.out⟩
 ·obtain⟨j1,j2⟩:=HJ.out
  rw[if_neg l2] at j1 j2;have hsz:jb.size=(textPe p).length:=by rw[j2];show (List.toArray (textPe p)).size=_;rw[List.size_toArray]
  by_cases l1:1000<(textPe p).length
  ·have e1:errPe p=2:=by rw[HE1.out,if_pos l1]
   have e2:(⟨(outText p).toArray⟩:ByteArray)=⟨#[]⟩:=by rw[HE2.out,if_pos l1]
   have E1:=Lib.hid e1;have E2:=Lib.hid e2;have hs1:1000<jb.size:=by omega
   have hs2:(1000:Int)<(jb.size:Int):=by omega
   clear HJ HE1 HE2 KJ l2 e1 e2 j2 hsz l1;subst j1;go_wp2
   go_ret2
   exact⟨ret_sj E2.out E1.out,HB3.out⟩
  ·have e1:errPe p=0:=by rw[HE1.out,if_neg l1]
   have e2:(⟨(outText p).toArray⟩:ByteArray)=jb:=by rw[HE2.out,if_neg l1,j2]
   have E1:=Lib.hid e1;have E2:=Lib.hid e2;have hs1:¬ 1000<jb.size:=by omega
   have hs2:¬ (1000:Int)<(jb.size:Int):=by omega
   clear HJ HE1 HE2 KJ l2 e1 e2 j2 hsz l1;subst j1;go_wp2
   go_ret2
   exact⟨ret_sj E2.out E1.out,HB3.out⟩
theorem cprint_any:PriK:=by
 intro p A c w h hc hs hG
 cases hm:mayPe p with
 | true=>exact cprint_yes p A _ c w h hc hs hG hm
 | false=>exact cprint_no p A _ c w h hc hs hG hm
end Go.Proofs.YtdobinjbejagcaaGreatDoor
