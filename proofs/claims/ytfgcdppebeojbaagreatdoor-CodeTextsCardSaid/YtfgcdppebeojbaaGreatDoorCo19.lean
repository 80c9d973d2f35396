import Derived.Deep.AppendLies
import Derived.Deep.RegionHeld3
import Derived.BigRegion
import Derived.Test.YtfgcdppebeojbaaGreatDoorCo4
import Derived.Test.YtfgcdppebeojbaaGreatDoorPlainC
import Derived.Laws.OwnMore
import Derived.Test.YtfgcdppebeojbaaGreatDoorSc41
import Derived.Maps.Own
import Derived.Maps.Keyed
import Derived.Carry
import Derived.Test.YtfgcdppebeojbaaGreatDoorSm4
import Derived.Test.YtfgcdppebeojbaaGreatDoorEx29
import Derived.Test.YtfgcdppebeojbaaGreatDoorSd19
namespace Go.Proofs.YtfgcdppebeojbaaGreatDoor
open Go Go.RowKit
set_option maxRecDepth 100000
set_option maxHeartbeats 8000000
theorem info46:(Tryz.prog.info? 46).map (fun i=>(i.zero,i.size,i.bytes))=some (some (.agg #[.int .i64 0,.int .i64 0,.string ⟨#[]⟩,.int .i64 0,.slice none 0 0,.int .i64 0,.int .i64 0,.string ⟨#[]⟩,.string ⟨#[]⟩,.slice none 0 0,.slice none 0 0]),11,160):=by kernel_rfl
theorem row_atO {W:World} {b T:Nat} {cs:Array Value} (h:W.heap[b]?=some (.cells cs T)) (j:Nat):W.cell? ⟨b,j,none⟩=cs[j]?:=cell_of_row _ _ j cs T (0,0) h
theorem free_atO {W:World} {b T:Nat} {cs:Array Value} (h:W.heap[b]?=some (.cells cs T)) (j:Nat):W.frozen? ⟨b,j,none⟩=false:=frozen_of_row _ _ j _ T h
theorem own_typO {w:World} {B e s n:Nat} {v:Value} {xs:List Value} (h:w.ownsRow B e s v n xs) {b:Nat} (hb:v.ownBlock=some b):∃ X,w.heap[b]?=some (.cells X e):=by
 rcases h.2 with ⟨rfl,_⟩ | ⟨g,cap,cur,rfl,_,q2,_⟩
 ·cases hb
 ·have:g=b:=by simpa[Value.ownBlock] using hb
  subst this;exact⟨cur,q2⟩
abbrev ldIn:Op:= .load 25 (.tmp 9)
theorem here_any (a:Addr) (A:Option Addr) (n c:Nat) (w:World) (h:w.cell? a=some (.slice A n c)):Calls Tryz.prog 38 #[.pointer (some a)] w fun e w'=>e= .returned (.int .i64 n)∧w=w':=by
 go_enter Tryz.func38,Tryz.ntmps38;go_wp2;go_ret;exact⟨rfl,rfl⟩
theorem eleven_one (op z:Int) (nm:ByteArray) (nn:Int) (p:Option Addr) (pn pc:Nat) (ck cn:Int) (cs co:ByteArray) (x:Option Addr) (xn xc:Nat) (l:Option Addr) (ln lc:Nat):∀ u∈[Value.int .i64 op,.int .i64 z,.string nm,.int .i64 nn,.slice p pn pc,.int .i64 ck,.int .i64 cn,.string cs,.string co,.slice x xn xc,.slice l ln lc],u.oneCell'=true:=by
 intro u hu;simp only[List.mem_cons,List.not_mem_nil,or_false] at hu
 rcases hu with rfl | rfl | rfl | rfl | rfl | rfl | rfl | rfl | rfl | rfl | rfl <;> rfl
theorem add_raw {B a N c:Nat} {A:Option Addr} {w:World} {cc:List Value} {X:Array Value} (P:World→Prop) (op z:Int) (nm:ByteArray) (nn:Int) (p:Option Addr) (pn pc:Nat) (ck cn:Int) (cs co:ByteArray) (x:Option Addr) (xn xc:Nat) (l:Option Addr) (ln lc:Nat) (hrow:w.ownsRow B 46 11 (.slice A N c) N cc) (hbox:w.heap[a]?=some (.cells X 100)) (h2:X[0]?=some (.slice A N c))
  (hN:N≤1000000) (hB:B≤w.heap.size)
  (HC:∀ (W w5:World) (g cap:Nat),Below w.heap.size w W→w.heap.size<W.heap.size→w5.ownsRow B 46 11 (.slice (some ⟨g,0,none⟩) (N+1) cap) (N+1) (cc++[.int .i64 op,.int .i64 z,.string nm,.int .i64 nn,.slice p pn pc,.int .i64 ck,.int .i64 cn,.string cs,.string co,.slice x xn xc,.slice l ln lc])→
   W.grownBy w5 (Value.slice A N c).ownBlock→((Value.slice A N c).ownBlock=some g∨g=W.heap.size)→P (w5.setCell ⟨a,0,none⟩ (.slice (some ⟨g,0,none⟩) (N+1) cap))):
  Calls Tryz.prog 37 #[.pointer (some ⟨a,0,none⟩),.agg #[.int .i64 op,.int .i64 z,.string nm,.int .i64 nn,.slice p pn pc,.int .i64 ck,.int .i64 cn,.string cs,.string co,.slice x xn xc,.slice l ln lc]] w fun e w'=>e= .returned (.int .i64 N)∧Hid (P w'):=by
 obtain⟨i0,hi0,hz0,hz1,hz2⟩:=info_parts info46;have hal:a<w.heap.size:=(Array.getElem?_eq_some_iff.mp hbox).1;have hra:(Value.slice A N c).ownBlock≠some a:=fun e=>by obtain⟨Y,q⟩:=own_typO hrow e;rw[q] at hbox;simp at hbox
 have hrl:(Value.slice A N c).ownBlock≠some w.heap.size:=fun e=>by obtain⟨Y,q⟩:=own_typO hrow e;have:=(Array.getElem?_eq_some_iff.mp q).1;omega
 have HS:Hid (∀ W:World,W.heap[w.heap.size]?=some (.cells #[Value.int .i64 op,.int .i64 z,.string nm,.int .i64 nn,.slice p pn pc,.int .i64 ck,.int .i64 cn,.string cs,.string co,.slice x xn xc,.slice l ln lc] 46)→W.cell? ⟨w.heap.size,0,none⟩=some (.int .i64 op)∧W.cell? ⟨w.heap.size,1,none⟩=some (.int .i64 z)∧W.cell? ⟨w.heap.size,2,none⟩=some (.string nm)∧W.cell? ⟨w.heap.size,3,none⟩=some (.int .i64 nn)∧W.cell? ⟨w.heap.size,4,none⟩=some (.slice p pn pc)∧W.cell? ⟨w.heap.size,5,none⟩=some (.int .i64 ck)∧W.cell? ⟨w.heap.size,6,none⟩=some (.int .i64 cn)∧W.cell? ⟨w.heap.size,7,none⟩=some (.string cs)∧W.cell? ⟨w.heap.size,8,none⟩=some (.string co)∧W.cell? ⟨w.heap.size,9,none⟩=some (.slice x xn xc)∧W.cell? ⟨w.heap.size,10,none⟩=some (.slice l ln lc)):=Lib.hid fun W e2=>by
  have l:=row_atO e2;exact⟨(l 0).trans rfl,(l 1).trans rfl,(l 2).trans rfl,(l 3).trans rfl,(l 4).trans rfl,(l 5).trans rfl,(l 6).trans rfl,(l 7).trans rfl,(l 8).trans rfl,(l 9).trans rfl,(l 10).trans rfl⟩
 have HB:=Lib.hid (one_boxX w);have HRW:=Lib.hid hrow;have HL:=Lib.hid (And.intro hal (And.intro hra hrl));have HZ:=Lib.hid (And.intro hN hB);have HCC:=Lib.hid HC;have hW1:(w.alloc (.cells #[Value.int .i64 op,.int .i64 z,.string nm,.int .i64 nn,.slice p pn pc,.int .i64 ck,.int .i64 cn,.string cs,.string co,.slice x xn xc,.slice l ln lc] 46)).heap[w.heap.size]?=some (.cells #[Value.int .i64 op,.int .i64 z,.string nm,.int .i64 nn,.slice p pn pc,.int .i64 ck,.int .i64 cn,.string cs,.string co,.slice x xn xc,.slice l ln lc] 46):=heap_alloc_new w _;have hW1a:(w.alloc (.cells #[Value.int .i64 op,.int .i64 z,.string nm,.int .i64 nn,.slice p pn pc,.int .i64 ck,.int .i64 cn,.string cs,.string co,.slice x xn xc,.slice l ln lc] 46)).heap[a]?=some (.cells X 100):=((one_boxX w _).block a hal).trans hbox;have HS1:=Lib.hid (HS.out (w.alloc (.cells #[Value.int .i64 op,.int .i64 z,.string nm,.int .i64 nn,.slice p pn pc,.int .i64 ck,.int .i64 cn,.string cs,.string co,.slice x xn xc,.slice l ln lc] 46)).drew hW1);have hb2:Below (w.heap.size+1) (w.alloc (.cells #[Value.int .i64 op,.int .i64 z,.string nm,.int .i64 nn,.slice p pn pc,.int .i64 ck,.int .i64 cn,.string cs,.string co,.slice x xn xc,.slice l ln lc] 46)).drew ((w.alloc (.cells #[Value.int .i64 op,.int .i64 z,.string nm,.int .i64 nn,.slice p pn pc,.int .i64 ck,.int .i64 cn,.string cs,.string co,.slice x xn xc,.slice l ln lc] 46)).drew.alloc (.cells #[Value.int .i64 op,.int .i64 z,.string nm,.int .i64 nn,.slice p pn pc,.int .i64 ck,.int .i64 cn,.string cs,.string co,.slice x xn xc,.slice l ln lc] 46)):=(Below.refl _ _).alloc (by simp) _;have HS2:=Lib.hid (HS.out ((w.alloc (.cells #[Value.int .i64 op,.int .i64 z,.string nm,.int .i64 nn,.slice p pn pc,.int .i64 ck,.int .i64 cn,.string cs,.string co,.slice x xn xc,.slice l ln lc] 46)).drew.alloc (.cells #[Value.int .i64 op,.int .i64 z,.string nm,.int .i64 nn,.slice p pn pc,.int .i64 ck,.int .i64 cn,.string cs,.string co,.slice x xn xc,.slice l ln lc] 46)) ((hb2.block w.heap.size (by omega)).trans hW1));have HR2:Hid (((w.alloc (.cells #[Value.int .i64 op,.int .i64 z,.string nm,.int .i64 nn,.slice p pn pc,.int .i64 ck,.int .i64 cn,.string cs,.string co,.slice x xn xc,.slice l ln lc] 46)).drew.alloc (.cells #[Value.int .i64 op,.int .i64 z,.string nm,.int .i64 nn,.slice p pn pc,.int .i64 ck,.int .i64 cn,.string cs,.string co,.slice x xn xc,.slice l ln lc] 46)).ownsRow B 46 11 (.slice A N c) N cc):=Lib.hid (below_kept hrow (((one_boxX w _).drew).alloc (by simp) _))
 have HN2:Hid (∀ (j:Nat) (u:Value),#[Value.int .i64 op,.int .i64 z,.string nm,.int .i64 nn,.slice p pn pc,.int .i64 ck,.int .i64 cn,.string cs,.string co,.slice x xn xc,.slice l ln lc].toList[j]?=some u→((w.alloc (.cells #[Value.int .i64 op,.int .i64 z,.string nm,.int .i64 nn,.slice p pn pc,.int .i64 ck,.int .i64 cn,.string cs,.string co,.slice x xn xc,.slice l ln lc] 46)).drew.alloc (.cells #[Value.int .i64 op,.int .i64 z,.string nm,.int .i64 nn,.slice p pn pc,.int .i64 ck,.int .i64 cn,.string cs,.string co,.slice x xn xc,.slice l ln lc] 46)).cell? ((⟨w.heap.size+1,0,none⟩:Addr).add j)=some u):=Lib.hid fun j u hu=>by
  have:=new_cells (w.alloc (.cells #[Value.int .i64 op,.int .i64 z,.string nm,.int .i64 nn,.slice p pn pc,.int .i64 ck,.int .i64 cn,.string cs,.string co,.slice x xn xc,.slice l ln lc] 46)).drew 46 #[Value.int .i64 op,.int .i64 z,.string nm,.int .i64 nn,.slice p pn pc,.int .i64 ck,.int .i64 cn,.string cs,.string co,.slice x xn xc,.slice l ln lc] j u hu;rw[show (w.alloc (.cells #[Value.int .i64 op,.int .i64 z,.string nm,.int .i64 nn,.slice p pn pc,.int .i64 ck,.int .i64 cn,.string cs,.string co,.slice x xn xc,.slice l ln lc] 46)).drew.heap.size=w.heap.size+1 by simp] at this;exact this
 have HO:=Lib.hid (eleven_one op z nm nn p pn pc ck cn cs co x xn xc l ln lc)
 have HT:Hid (∀ (g cap:Nat) (w5:World),w5.ownsRow B 46 11 (.slice (some ⟨g,0,none⟩) (N+1) cap) (N+1) (cc++[.int .i64 op,.int .i64 z,.string nm,.int .i64 nn,.slice p pn pc,.int .i64 ck,.int .i64 cn,.string cs,.string co,.slice x xn xc,.slice l ln lc])→((w.alloc (.cells #[Value.int .i64 op,.int .i64 z,.string nm,.int .i64 nn,.slice p pn pc,.int .i64 ck,.int .i64 cn,.string cs,.string co,.slice x xn xc,.slice l ln lc] 46)).drew.alloc (.cells #[Value.int .i64 op,.int .i64 z,.string nm,.int .i64 nn,.slice p pn pc,.int .i64 ck,.int .i64 cn,.string cs,.string co,.slice x xn xc,.slice l ln lc] 46)).grownBy w5 (Value.slice A N c).ownBlock→((Value.slice A N c).ownBlock=some g∨g=((w.alloc (.cells #[Value.int .i64 op,.int .i64 z,.string nm,.int .i64 nn,.slice p pn pc,.int .i64 ck,.int .i64 cn,.string cs,.string co,.slice x xn xc,.slice l ln lc] 46)).drew.alloc (.cells #[Value.int .i64 op,.int .i64 z,.string nm,.int .i64 nn,.slice p pn pc,.int .i64 ck,.int .i64 cn,.string cs,.string co,.slice x xn xc,.slice l ln lc] 46)).heap.size)→
   P (w5.setCell ⟨a,0,none⟩ (.slice (some ⟨g,0,none⟩) (N+1) cap))∧w5.heap[a]?=some (.cells X 100)∧w5.heap[w.heap.size]?=some (.cells #[Value.int .i64 op,.int .i64 z,.string nm,.int .i64 nn,.slice p pn pc,.int .i64 ck,.int .i64 cn,.string cs,.string co,.slice x xn xc,.slice l ln lc] 46)∧(w5.setCell ⟨a,0,none⟩ (.slice (some ⟨g,0,none⟩) (N+1) cap)).heap[w.heap.size]?=some (.cells #[Value.int .i64 op,.int .i64 z,.string nm,.int .i64 nn,.slice p pn pc,.int .i64 ck,.int .i64 cn,.string cs,.string co,.slice x xn xc,.slice l ln lc] 46)∧w5.frozen? ⟨a,0,none⟩=false):=Lib.hid fun g cap w5 q1 q2 q3=>by
  have hz:((w.alloc (.cells #[Value.int .i64 op,.int .i64 z,.string nm,.int .i64 nn,.slice p pn pc,.int .i64 ck,.int .i64 cn,.string cs,.string co,.slice x xn xc,.slice l ln lc] 46)).drew.alloc (.cells #[Value.int .i64 op,.int .i64 z,.string nm,.int .i64 nn,.slice p pn pc,.int .i64 ck,.int .i64 cn,.string cs,.string co,.slice x xn xc,.slice l ln lc] 46)).heap.size=w.heap.size+2:=by simp
  have e1:w5.heap[a]?=some (.cells X 100):=(q2.block a (by omega) (fun e=>hra e.symm)).trans ((hb2.block a (by omega)).trans hW1a);have e2:=(q2.block _ (by omega) (fun e=>hrl e.symm)).trans ((hb2.block w.heap.size (by omega)).trans hW1);refine⟨HC _ w5 g cap (((one_boxX w _).drew).alloc (by simp) _) (by omega) q1 q2 q3,e1,e2,(Below.heap_setCell _ _ _ _ (by show w.heap.size≠a;omega)).trans e2,free_atO e1 0⟩
 have HSZ:Hid (B≤((w.alloc (.cells #[Value.int .i64 op,.int .i64 z,.string nm,.int .i64 nn,.slice p pn pc,.int .i64 ck,.int .i64 cn,.string cs,.string co,.slice x xn xc,.slice l ln lc] 46)).drew.alloc (.cells #[Value.int .i64 op,.int .i64 z,.string nm,.int .i64 nn,.slice p pn pc,.int .i64 ck,.int .i64 cn,.string cs,.string co,.slice x xn xc,.slice l ln lc] 46)).heap.size):=Lib.hid (by simp;omega);have hca:w.cell? ⟨a,0,none⟩=some (.slice A N c):=(row_atO hbox 0).trans h2;have l0:∀ o,(w.alloc o).cell? ⟨a,0,none⟩=some (.slice A N c):=fun o=>((one_boxX w o).cell (p:=⟨a,0,none⟩) hal).trans hca
 have l1:∀ o o',((w.alloc o).alloc o').cell? ⟨a,0,none⟩=some (.slice A N c):=fun o o'=>(((one_boxX w o).alloc (by simp) o').cell (p:=⟨a,0,none⟩) hal).trans hca
 have l2:∀ o o',((w.alloc o).drew.alloc o').cell? ⟨a,0,none⟩=some (.slice A N c):=fun o o'=>(((one_boxX w o).drew.alloc (by simp) o').cell (p:=⟨a,0,none⟩) hal).trans hca
 have H2:=Lib.hid h2;have KH:Hid (∀ (w5:World) (g cap:Nat),(w5.setCell ⟨a,0,none⟩ (.slice (some ⟨g,0,none⟩) (N+1) cap)).cell? ⟨a,0,none⟩=some (.slice (some ⟨g,0,none⟩) (N+1) cap)→Calls Tryz.prog 38 #[.pointer (some ⟨a,0,none⟩)] (w5.setCell ⟨a,0,none⟩ (.slice (some ⟨g,0,none⟩) (N+1) cap)) fun e w'=>e= .returned (.int .i64 ((N+1:Nat):Int))∧(w5.setCell ⟨a,0,none⟩ (.slice (some ⟨g,0,none⟩) (N+1) cap))=w'):=Lib.hid fun w5 g cap h=>here_any ⟨a,0,none⟩ _ _ _ _ h
 clear hca;clear hrow hbox h2 hal hra hrl HC hW1 hW1a hb2 HB HRW HL HCC;go_enter Tryz.func37,Tryz.ntmps37;go_wp2;rw[show Op.load 25 (.tmp 9)=ldIn from rfl]
 go_region_held3 (fun w'=>w'.cell? ⟨w.heap.size,0,none⟩=some (.int .i64 op)∧w'.cell? ⟨w.heap.size,1,none⟩=some (.int .i64 z)∧w'.cell? ⟨w.heap.size,2,none⟩=some (.string nm)∧w'.cell? ⟨w.heap.size,3,none⟩=some (.int .i64 nn)∧w'.cell? ⟨w.heap.size,4,none⟩=some (.slice p pn pc)∧w'.cell? ⟨w.heap.size,5,none⟩=some (.int .i64 ck)∧w'.cell? ⟨w.heap.size,6,none⟩=some (.int .i64 cn)∧w'.cell? ⟨w.heap.size,7,none⟩=some (.string cs)∧w'.cell? ⟨w.heap.size,8,none⟩=some (.string co)∧w'.cell? ⟨w.heap.size,9,none⟩=some (.slice x xn xc)∧w'.cell? ⟨w.heap.size,10,none⟩=some (.slice l ln lc)) (first | with_reducible exact HS1.out | with_reducible exact hs5 | with_reducible exact hs6 | exact HS2.out) (first
  | (refine step_append_lies _ rfl (.tmp 10) (.tmp 12) 25 rfl B 46 i0 (.agg #[.int .i64 0,.int .i64 0,.string ⟨#[]⟩,.int .i64 0,.slice none 0 0,.int .i64 0,.int .i64 0,.string ⟨#[]⟩,.string ⟨#[]⟩,.slice none 0 0,.slice none 0 0]) 11 160 Tryz.underlying25 hi0 hz0 hz1 hz2 rfl (by decide) _ _ _ rfl HR2.out ⟨w.heap.size+1,0,none⟩ 1 1 [.int .i64 op,.int .i64 z,.string nm,.int .i64 nn,.slice p pn pc,.int .i64 ck,.int .i64 cn,.string cs,.string co,.slice x xn xc,.slice l ln lc] rfl rfl HN2.out HO.out (by decide) (by unfold maxLen;omega) (by omega) HSZ.out _ rfl ?_;intro g5 cap5 w5 hown hgrow hat hlt;have HD:=Lib.hid (HT.out g5 cap5 w5 hown hgrow hat);have hs5:=HS.out w5 HD.out.2.2.1;have hs6:=HS.out _ HD.out.2.2.2.1;have hf5:=HD.out.2.2.2.2;have hc5:=(row_atO HD.out.2.1 0).trans H2.out;have HE5:=Lib.hid (KH.out w5 g5 cap5 (set_same _ _ _ _ _ hc5));clear hown hgrow hat hlt)
  | fail)
 all_goals (go_wp2_with (go_at_call 38;((with_reducible refine(HE5.out).mono ?_));rintro _ _ ⟨rfl,rfl⟩))
 all_goals go_ret
 all_goals exact⟨ret_int (by omega),Lib.hid HD.out.1⟩
structure MkI (w0:World) (mb:Nat) (w:World) (is:List Ins):Prop where
 low:Below w0.heap.size w0 w
 gt:w0.heap.size≤mb
 ex:∃ A c mp,w.heap[mb]?=some (.cells #[.slice A is.length c,.slice none 0 0,mp,.slice none 0 0] 100)∧w.ownsRow w0.heap.size 46 11 (.slice A is.length c) is.length (is.flatMap cellsI)
theorem MkI.next {w0 w w':World} {mb:Nat} {is:List Ins} (h:MkI w0 mb w is) (hb:Below w.heap.size w w'):MkI w0 mb w' is:=by
 obtain⟨A,c,mp,h1,h2⟩:=h.ex;exact⟨h.low.trans (hb.mono h.low.size),h.gt,A,c,mp,(hb.block _ (Array.getElem?_eq_some_iff.mp h1).1).trans h1,below_kept h2 hb⟩
theorem MkI.lt {w0 w:World} {mb:Nat} {is:List Ins} (h:MkI w0 mb w is):mb<w.heap.size:=by
 obtain⟨A,c,mp,h1,h2⟩:=h.ex;exact(Array.getElem?_eq_some_iff.mp h1).1
def Keep (mb:Nat) (w w':World):Prop:=∀ (k:Nat) (X:Array Value) (T:TypeId),w.heap[k]?=some (.cells X T)→k≠mb→T≠46→w'.heap[k]?=some (.cells X T)
theorem Keep.trans {mb:Nat} {w w1 w2:World} (h:Keep mb w w1) (k:Keep mb w1 w2):Keep mb w w2:=fun i X T a b c=>k i X T (h i X T a b c) b c
theorem Keep.of_below {mb:Nat} {w w':World} (h:Below w.heap.size w w'):Keep mb w w':=fun i X T a _ _=>(h.block i (Array.getElem?_eq_some_iff.mp a).1).trans a
theorem add_any {w0 w:World} {mb:Nat} {is:List Ins} (x:Ins) (h:MkI w0 mb w is) (hn:is.length≤1000):
  Calls Tryz.prog 37 #[.pointer (some ⟨mb,0,none⟩),.agg (cellsI x).toArray] w fun e w'=>e= .returned (.int .i64 is.length)∧Hid (MkI w0 mb w' (is++[x])∧Keep mb w w'):=by
 obtain⟨A,c,mp,h1,h2⟩:=h.ex;have hlt:=h.lt;have hra:(Value.slice A is.length c).ownBlock≠some mb:=fun e=>by obtain⟨Y,q⟩:=own_typO h2 e;rw[q] at h1;simp at h1
 refine add_raw (B:=w0.heap.size) (fun w'=>MkI w0 mb w' (is++[x])∧Keep mb w w') x.op x.a x.nm x.n x.p x.pn x.pc x.ck x.cn x.cs x.co x.x x.xn x.xc x.l x.ln x.lc h2 h1 rfl (by omega) h.low.size fun W w5 g cap q1 q2 q3 q4 q5=>?_
 have e5:w5.heap[mb]?=some (.cells #[.slice A is.length c,.slice none 0 0,mp,.slice none 0 0] 100):=(q4.block mb (by have:=q1.size;omega) (fun e=>hra e.symm)).trans ((q1.block mb hlt).trans h1)
 have hg:g≠mb:=fun e=>by
  rcases q5 with q | q
  ·exact hra (by rw[q,e])
  ·omega
 refine⟨⟨?_,h.gt,some ⟨g,0,none⟩,cap,mp,?_,?_⟩,fun k X T a b hT=>?_⟩
 rotate_left
 rotate_left
 rotate_left
 ·rw[Below.heap_setCell _ _ _ _ (by show k≠mb;exact b),q4.block k (by have:=(Array.getElem?_eq_some_iff.mp a).1;have:=q1.size;omega) (fun e=>by
   obtain⟨Y,q⟩:=own_typO h2 e.symm;rw[a] at q;injection q with q
   injection q with q1 q2
   exact hT q2),q1.block k (Array.getElem?_eq_some_iff.mp a).1]
  exact a
 ·refine Below.setCell ?_ h.gt _
  refine⟨q4.os.trans (q1.os.trans h.low.os),q4.tape.trans (q1.tape.trans h.low.tape),q4.output.trans (q1.output.trans h.low.output),Nat.le_trans h.low.size (Nat.le_trans q1.size q4.size),fun k hk=>?_⟩
  have hr:(Value.slice A is.length c).ownBlock≠some k:=fun e=>by
   rcases h2.2 with ⟨r1,_⟩ | ⟨g',cap',cur,r1,r2,_⟩
   ·rw[r1] at e;cases e
   ·rw[r1] at e
    have:g'=k:=by simpa[Value.ownBlock] using e
    omega
  rw[q4.block k (by have:=h.low.size;have:=q1.size;omega) (fun e=>hr e.symm),q1.block k (by have:=h.low.size;omega),h.low.block k hk]
 ·rw[heap_setCell_same _ _ _ _ _ _ e5,List.length_append,List.length_singleton];rfl
 ·rw[List.length_append,List.length_singleton,List.flatMap_append,List.flatMap_cons,List.flatMap_nil,List.append_nil]
  rcases q3.2 with ⟨r1,_⟩ | ⟨g',cap',cur,r1,r2,r3,r4⟩
  ·cases r1
  ·refine⟨q3.1,.inr ⟨g',cap',cur,r1,r2,?_,r4⟩⟩
   have:g=g':=by injection r1 with r1;injection r1 with r1;injection r1
   rw[Below.heap_setCell _ _ _ _ (by show g'≠mb;omega)];exact r3
theorem info44:(Tryz.prog.info? 44).map (fun i=>(i.zero,i.size,i.bytes))=some (some (.agg #[.int .i64 0,.int .i64 0,.string ⟨#[]⟩,.string ⟨#[]⟩,.slice none 0 0]),5,72):=by kernel_rfl
theorem run_append_00 {P:Program} {w:World} (t ty e:TypeId) (i:TypeInfo) (ht:P.underlying t=some (.slice e)) (hi:P.info? e=some i) (g:Nat) (a:Addr) (c:Nat):
  (Builtin.append_ #[t,t] ty #[.slice (some ⟨g,0,none⟩) 0 0,.slice (some a) 0 c]).run P w= .ok (.slice (some ⟨g,0,none⟩) 0 0) w:=by
 simp[Builtin.append_,run_underlying ht,sizeOf,typeInfo,hi,Builtin.lenOf,Builtin.firstCells,loadCells,loadCellsFrom,storeCells]
theorem cloneX_none (c:Nat) (w:World):Calls Tryz.prog 140 #[.slice none 0 c] w fun e w'=>e= .returned (.slice none 0 0)∧Below w.heap.size w w':=by
 have hq:=Lib.run_eql_slice_nil (P:=Tryz.prog) w 42 44 none 0 c 0 0 Tryz.underlying42;go_enter Tryz.func140,Tryz.ntmps140;go_wp2;go_ret;exact⟨rfl,Below.refl _ _⟩
theorem cloneX_some (a:Addr) (c:Nat) (w:World):Calls Tryz.prog 140 #[.slice (some a) 0 c] w fun e w'=>e= .returned (.slice (some ⟨w.heap.size,0,none⟩) 0 0)∧Below w.heap.size w w':=by
 have HB:Hid (∀ o,Below w.heap.size w (w.alloc o)):=Lib.hid (one_boxX w);have hq:=Lib.run_eql_slice_nil (P:=Tryz.prog) w 42 44 (some a) 0 c 0 0 Tryz.underlying42;obtain⟨i0,hi0,_,_,_⟩:=info_parts info44;have hap:=fun g w'=>run_append_00 (P:=Tryz.prog) (w:=w') 42 42 44 i0 Tryz.underlying42 hi0 g a c
 go_enter Tryz.func140,Tryz.ntmps140;go_wp2;go_ret;exact⟨rfl,HB.out _⟩
def CopP (w:World) (ek en:Int) (S O:ByteArray) (e:Ending) (w':World):Prop:=∃ X c,e= .returned (.agg #[.int .i64 ek,.int .i64 en,.string S,.string O,.slice X 0 c])∧Below w.heap.size w w'
theorem cloneX_any (A:Option Addr) (c:Nat) (w:World):Calls Tryz.prog 140 #[.slice A 0 c] w fun e w'=>∃ X c',e= .returned (.slice X 0 c')∧Below w.heap.size w w':=by
 cases A with
 | none=>exact(cloneX_none c w).mono fun e w' ⟨h1,h2⟩=>⟨_,_,h1,h2⟩
 | some a=>exact(cloneX_some a c w).mono fun e w' ⟨h1,h2⟩=>⟨_,_,h1,h2⟩
theorem copied_O (ek en:Int) (S O:ByteArray) (lx:Option Addr) (cx:Nat) (w:World):Calls Tryz.prog 117 #[.agg #[.int .i64 ek,.int .i64 en,.string S,.string O,.slice lx 0 cx]] w (CopP w ek en S O):=by
 have KC:Hid (∀ w',Calls Tryz.prog 140 #[.slice lx 0 cx] w' fun e w2=>∃ X c',e= .returned (.slice X 0 c')∧Below w'.heap.size w' w2):=Lib.hid fun w'=>cloneX_any lx cx w'
 obtain⟨W,hW⟩:∃ W,W=(w.alloc (.cells #[.int .i64 ek,.int .i64 en,.string S,.string O,.slice lx 0 cx] 44)).alloc (.cells #[.int .i64 0,.int .i64 0,.string ⟨#[]⟩,.string ⟨#[]⟩,.slice none 0 0] 44):=⟨_,rfl⟩;have HW:=Lib.hid hW;have HB:Hid (Below w.heap.size w W):=Lib.hid (by rw[hW];exact((Below.refl _ _).alloc (Nat.le_refl _) _).alloc (by simp) _);have HS:Hid (W.heap.size=w.heap.size+2):=Lib.hid (by rw[hW];simp)
 have HC:Hid (∀ W',Below W.heap.size W W'→W'.heap[w.heap.size]?=some (.cells #[.int .i64 ek,.int .i64 en,.string S,.string O,.slice lx 0 cx] 44)∧W'.heap[w.heap.size+1]?=some (.cells #[.int .i64 0,.int .i64 0,.string ⟨#[]⟩,.string ⟨#[]⟩,.slice none 0 0] 44)):=Lib.hid fun W' hw=>by
  have hs:=HS.out;refine⟨(hw.block _ (by omega)).trans ?_,(hw.block _ (by omega)).trans ?_⟩
  ·rw[hW,heap_alloc_old _ _ (by simp)];exact heap_alloc_new w _
  ·rw[hW];have:=heap_alloc_new (w.alloc (.cells #[.int .i64 ek,.int .i64 en,.string S,.string O,.slice lx 0 cx] 44)) (.cells #[.int .i64 0,.int .i64 0,.string ⟨#[]⟩,.string ⟨#[]⟩,.slice none 0 0] 44)
   simpa using this
 clear hW;unfold CopP
 suffices hs:Calls Tryz.prog 117 #[.agg #[.int .i64 ek,.int .i64 en,.string S,.string O,.slice lx 0 cx]] w fun e w'=>Hid (CopP w ek en S O e w') from hs.mono fun e w' h=>h.out
 go_enter Tryz.func117,Tryz.ntmps117;go_wp2_with fail;rw[←HW.out];refine(KC.out _).mono ?_;rintro _ w1 ⟨X,c1,rfl,hb1⟩;have HB1:=Lib.hid hb1;obtain⟨e1,e2⟩:=HC.out w1 hb1;have f4:=free_atO e1 4;have q4:=(row_atO e1 4).trans rfl;clear hb1
 have HR:Hid ((w1.setCell ⟨w.heap.size,4,none⟩ (.slice X 0 c1)).heap[w.heap.size]?=some (.cells #[.int .i64 ek,.int .i64 en,.string S,.string O,.slice X 0 c1] 44)∧(w1.setCell ⟨w.heap.size,4,none⟩ (.slice X 0 c1)).heap[w.heap.size+1]?=some (.cells #[.int .i64 0,.int .i64 0,.string ⟨#[]⟩,.string ⟨#[]⟩,.slice none 0 0] 44)∧Below w.heap.size w (w1.setCell ⟨w.heap.size,4,none⟩ (.slice X 0 c1))):=
  Lib.hid ⟨by rw[heap_setCell_same _ _ _ _ _ _ e1];rfl,by rw[Below.heap_setCell _ _ _ _ (by show w.heap.size+1≠w.heap.size;omega)];exact e2,(HB.out.trans (HB1.out.mono HB.out.size)).setCell (Nat.le_refl _) _⟩
 clear e1 e2;go_wp2
 go_loopw [12] (fun i wr=>i= .int .i64 0∧Hid (wr.heap[w.heap.size]?=some (.cells #[.int .i64 ek,.int .i64 en,.string S,.string O,.slice X 0 c1] 44)∧wr.heap[w.heap.size+1]?=some (.cells #[.int .i64 0,.int .i64 0,.string ⟨#[]⟩,.string ⟨#[]⟩,.slice none 0 0] 44)∧Below w.heap.size w wr)) (fun i _=>0)
 case atStart=>exact⟨rfl,HR⟩
 case round=>
  obtain⟨rfl,HQ⟩:=hrel;have e1:=row_atO HQ.out.1;have r0:=(e1 0).trans rfl;have r1:=(e1 1).trans rfl;have r2:=(e1 2).trans rfl;have r3:=(e1 3).trans rfl;have r4:=(e1 4).trans rfl;have g2:=row_atO HQ.out.2.1;have s0:=(g2 0).trans rfl;have s1:=(g2 1).trans rfl;have s2:=(g2 2).trans rfl;have s3:=(g2 3).trans rfl;have s4:=(g2 4).trans rfl;have f2:=free_atO HQ.out.2.1;have f20:=f2 0;have f21:=f2 1;have f22:=f2 2;have f23:=f2 3;have f24:=f2 4;clear e1 g2 f2;go_wp2;exact bodyPost_ret (v:= .agg #[.int .i64 ek,.int .i64 en,.string S,.string O,.slice X 0 c1]) (by simp[results,Tryz.results117,go_sem,s0,s1,s2,s3,s4]) rfl (Lib.hid ⟨X,c1,rfl,((((HQ.out.2.2.setCell (by simp) _).setCell (by simp) _).setCell (by simp) _).setCell (by simp) _).setCell (by simp) _⟩)
theorem aim_0 {w0 w:World} {mb:Nat} {x:Ins} {is:List Ins} (g:Nat) (h:MkI w0 mb w (x::is)) (hn:is.length≤1000) (hg:w.cell? ⟨g,0,none⟩=some (.int .i64 0)):
  Calls Tryz.prog 118 #[.pointer (some ⟨mb,0,none⟩),.slice (some ⟨g,0,none⟩) 1 1] w fun e w'=>e= .returned (.tuple #[])∧Hid (MkI w0 mb w' ({ x with a:=is.length+1 }::is)∧Keep mb w w'):=by
 obtain⟨A,c,mp,h1,h2⟩:=h.ex
 obtain⟨g5,rfl⟩:∃ g5,A=some ⟨g5,0,none⟩:=by
  rcases h2.2 with ⟨_,r⟩ | ⟨g',cap',cur,r,_⟩
  ·simp at r
  ·injection r with r;exact⟨g',r⟩
 have hne:g5≠mb:=fun e=>by
  obtain⟨Y,q⟩:=own_typO h2 (b:=g5) rfl;rw[e,h1] at q;simp at q
 obtain⟨n,hnn⟩:∃ n,n=(x::is).length:=⟨_,rfl⟩;have hn1:n=is.length+1:=by rw[hnn];rfl
 rw[←hnn] at h1 h2;have hb:=h2.lt g5 rfl;have hx0:=h2.cellAt 1 (by omega);have hx1:w.cell? ⟨g5,1,none⟩=some (.int .i64 x.a):=hx0.trans rfl;have hfz:=h2.frozenAt 1;have hm0:w.cell? ⟨mb,0,none⟩=some (.slice (some ⟨g5,0,none⟩) n c):=(row_atO h1 0).trans rfl;have hm1:∀ v,(w.setCell ⟨g5,1,none⟩ v).cell? ⟨mb,0,none⟩=some (.slice (some ⟨g5,0,none⟩) n c):=fun v=>(World.cell?_setCell_other _ _ _ _ (by intro e;injection e with e;exact hne e)).trans hm0
 have HKP:Hid (Keep mb w (w.setCell ⟨g5,1,none⟩ (.int .i64 n)).drew):=Lib.hid fun k X T q1 q2 q3=>by
  obtain⟨Y,q⟩:=own_typO h2 (b:=g5) rfl
  have hk:k≠g5:=fun e=>by
   subst e;rw[q1] at q;injection q with q
   injection q with q4 q5
   exact q3 q5
  exact(Below.heap_setCell _ _ _ _ (by show k≠g5;exact hk)).trans q1
 have HE:Hid (MkI w0 mb (w.setCell ⟨g5,1,none⟩ (.int .i64 n)) ({ x with a:=is.length+1 }::is)):=Lib.hid (by
  refine⟨h.low.setCell hb.1 _,h.gt,some ⟨g5,0,none⟩,c,mp,?_,?_⟩
  ·rw[Below.heap_setCell _ _ _ _ (by show mb≠g5;omega),h1,hnn];rfl
  ·have:=h2.stored 1 (.int .i64 n)
   rw[hnn] at this
   have e:((x::is).flatMap cellsI).set 1 (.int .i64 ((x::is).length:Nat))=({ x with a:=is.length+1 }::is).flatMap cellsI:=by
    rw[List.flatMap_cons,List.flatMap_cons];show (cellsI x++_).set 1 _=_;rw[List.set_append_left _ _ (by show 1<11;omega)]
    rfl
   rw[←hnn] at this e;rw[e] at this;rw[hnn] at this ⊢;exact this.1)
 have KH:Hid (∀ w',w'.cell? ⟨mb,0,none⟩=some (.slice (some ⟨g5,0,none⟩) n c)→Calls Tryz.prog 38 #[.pointer (some ⟨mb,0,none⟩)] w' fun e w2=>e= .returned (.int .i64 n)∧w'=w2):=Lib.hid fun w' hh=>here_any _ _ _ _ w' hh
 have hn2:(0:Int)<n:=by omega
 have hn3:0<n:=by omega
 have hn4:n≤1001:=by omega
 clear hnn hn1 h1 h2 h hb hx0;go_enter Tryz.func118,Tryz.ntmps118;go_wp2
 go_loopw [8] (fun i wr=>∃ j:Nat,j≤1∧i= .int .i64 j∧(j=0→Hid (wr=w))∧(j=1→Hid (MkI w0 mb wr ({ x with a:=is.length+1 }::is)∧Keep mb w wr))) (fun i _=>1 - (intOf i).toNat)
 case atStart=>exact⟨0,by omega,rfl,fun _=>Lib.hid rfl,fun e=>by omega⟩
 case round=>
  obtain⟨j,hj,rfl,p0,p1⟩:=hrel;by_cases a:j=0
  ·subst a
   obtain rfl:=(p0 rfl).out;clear p0 p1;have HSD:Hid (wr.drew.cell? ⟨mb,0,none⟩=some (.slice (some ⟨g5,0,none⟩) n c)):=Lib.hid hm0;have HSE:Hid (∀ v,(wr.drew.setCell ⟨g5,1,none⟩ v).cell? ⟨mb,0,none⟩=some (.slice (some ⟨g5,0,none⟩) n c)):=Lib.hid hm1;have HE2:Hid (MkI w0 mb ((wr.drew.setCell ⟨g5,1,none⟩ (.int .i64 n))) ({ x with a:=is.length+1 }::is)∧Keep mb wr (wr.drew.setCell ⟨g5,1,none⟩ (.int .i64 n))):=Lib.hid ⟨HE.out.next (Below.refl _ _).drew,HKP.out⟩;have HM:=Lib.hid hm1;clear hm1;go_wp2
   go_region_held3 (fun w'=>w'.cell? ⟨mb,0,none⟩=some (.slice (some ⟨g5,0,none⟩) n c)) (first | with_reducible exact HSD.out | exact HSE.out _) (first
    | (go_at_call 38;((with_reducible refine(KH.out _ HSD.out).mono ?_));rintro _ _ ⟨rfl,rfl⟩)
    | fail)
   all_goals
    go_wp2
    go_roundw
    case rel=>exact⟨1,by omega,by go_num,fun e=>by omega,fun _=>HE2⟩
    case measure=>simp[intOf]
  ·obtain rfl:j=1:=by omega
   have HX:=p1 rfl;clear p0 p1;go_wp2
   first | go_end0 | (refine bodyPost_ret (results_none (by rfl) _ _ _) rfl ?_)
   exact⟨rfl,HX⟩
def SI:ByteArray:=⟨#[105,102,32,40,49,41,32,123,101,120,105,116,125]⟩
def LI:List Tok:=[⟨1,[105,102],0,[],0⟩,⟨4,[40],0,[],3⟩,⟨2,[],1,[],4⟩,⟨4,[41],0,[],5⟩,⟨4,[123],0,[],7⟩,⟨1,[101,120,105,116],0,[],8⟩,⟨4,[125],0,[],12⟩]
theorem scanI:scan SI.data.toList=(some LI,0,0):=by
 have b0:behind SI.data.toList 0=0:=by decide
 have h0:tokR (SI.data.toList.drop 0)= .ok ⟨1,[105,102],0,[],0⟩ 2:=by kernel_rfl
 have b1:behind SI.data.toList (0+2)=3:=by decide
 have h1:tokR (SI.data.toList.drop 3)= .ok ⟨4,[40],0,[],0⟩ 1:=by kernel_rfl
 have b2:behind SI.data.toList (3+1)=4:=by decide
 have h2:tokR (SI.data.toList.drop 4)= .ok ⟨2,[],1,[],0⟩ 1:=by kernel_rfl
 have b3:behind SI.data.toList (4+1)=5:=by decide
 have h3:tokR (SI.data.toList.drop 5)= .ok ⟨4,[41],0,[],0⟩ 1:=by kernel_rfl
 have b4:behind SI.data.toList (5+1)=7:=by decide
 have h4:tokR (SI.data.toList.drop 7)= .ok ⟨4,[123],0,[],0⟩ 1:=by kernel_rfl
 have b5:behind SI.data.toList (7+1)=8:=by decide
 have h5:tokR (SI.data.toList.drop 8)= .ok ⟨1,[101,120,105,116],0,[],0⟩ 4:=by kernel_rfl
 have b6:behind SI.data.toList (8+4)=12:=by decide
 have h6:tokR (SI.data.toList.drop 12)= .ok ⟨4,[125],0,[],0⟩ 1:=by kernel_rfl
 have b7:behind SI.data.toList (12+1)=13:=by decide
 unfold scan;rw[if_neg (by decide),b0,goT_ok _ (by decide) h0,b1,goT_ok _ (by decide) h1,b2,goT_ok _ (by decide) h2,b3,goT_ok _ (by decide) h3,b4,goT_ok _ (by decide) h4,b5,goT_ok _ (by decide) h5,b6,goT_ok _ (by decide) h6,b7,goT_end _ (by decide)]
 rfl
def cmX:Cm:= .mk 16 [] 0 [] exNone [] [] [] 8
def exO:Ex:= .mk 0 1 [] [] []
theorem exI:exR LI 2= .ok exO 3:=by
 have h:RdE LI (.some 1) 2 0 (.ok exO 3):= .some (x:=exO) (j:=3) (.num (t:=⟨2,[],1,[],4⟩) rfl rfl) (.stop (by decide));have hx:∃ r,RdE LI (.some 1) 2 0 r:=⟨_,h⟩;unfold exR;rw[dif_pos hx];exact RdE.det hx.choose_spec h
theorem condI:condF LI 1= .ok exO 4:=by
 have e:condF LI 1=(exZ (exR LI 2)).then fun x j=>(needF LI 4 [41] j).then fun _ m=>if mayX x 0 then .ok x m else .bad 1 true:=by kernel_rfl
 rw[e,exI];show _=_;kernel_rfl
def cmI:Cm:= .mk 4 [] 0 [] exO [cmX] [] [] 0
theorem cmdI:cmdF LI (blockF LI (cmdsF LI 7)) 0 0= .ok cmI 7:=by
 have e:cmdF LI (blockF LI (cmdsF LI 7)) 0 0=(condF LI 1).then fun x i=>(blockF LI (cmdsF LI 7) 0 i).then fun b j=>if isT LI 1 [101,108,115,101] j then (blockF LI (cmdsF LI 7) 0 (j+1)).then fun e m=> .ok (.mk 4 [] 0 [] x b e [] 0) m else .ok (.mk 4 [] 0 [] x b [] [] 0) j:=by kernel_rfl
 rw[e,condI];show _=_;kernel_rfl
theorem allI:allF LI= .ok [cmI] 7:=by
 have e:cmdsF LI 8 0 0=(cmdF LI (blockF LI (cmdsF LI 7)) 0 0).then fun c i=>(cmdsF LI 7 0 i).then fun cs m=> .ok (c::cs) m:=by kernel_rfl
 have e2:allF LI=(cmdsF LI 8 0 0).then fun x j=>if j<LI.length then .bad j false else .ok x j:=by kernel_rfl
 rw[e2,e,cmdI];show _=_;kernel_rfl
theorem parI:parS SI.data.toList=([cmI],0,0):=by
 unfold parS;rw[scanI];show ansS LI _=_;unfold ansS;rw[allI]
section
open Go.Maps (Keyed)
theorem key9:Keyed Tryz.prog 9:=Go.Maps.string_keyed Tryz.underlying9
theorem look_empty {t e:TypeId} {w:World} {b:Nat} (h:w.heap[b]?=some (.map #[] 0)) (ht:Tryz.prog.underlying t=some (.map 9 e)) {z:Value} (hz:(zeroValue e).run Tryz.prog w= .ok z w) (s:ByteArray) (hs:s.size≤maxLen):
  (Instr.lookup t (.map (some b)) (.string s) true).run Tryz.prog w= .ok (.tuple #[z,.bool false]) w:=by
 obtain⟨kl,hkey⟩:∃ kl,keyOf Tryz.prog 9 (.string s)=some kl:=by simp[keyOf,Tryz.underlying9,mapKey,hs]
 rcases key9.find w hkey [] (by simp) with ⟨q1,q2⟩ | ⟨j,e0,q1,q2,q3⟩
 ·simp[Instr.lookup,run_underlying ht,MapKept.run_getObj_map h,key9.check w _ hkey,q1,hz,Result.andThen]
 ·simp at q2
theorem zero184 (w:World):(zeroValue 184).run Tryz.prog w= .ok (.agg #[]) w:=by kernel_rfl
abbrev v13 (k ek en:Int) (lp lx lb le lu:Option Addr) (cp nx cx nb cb ce cu:Nat) (ens eop:ByteArray) (p:Int):Array Value:=#[.int .i64 k,.string ⟨#[]⟩,.int .i64 0,.slice lp 0 cp,.int .i64 ek,.int .i64 en,.string ens,.string eop,.slice lx nx cx,.slice lb nb cb,.slice le 0 ce,.slice lu 0 cu,.int .i64 p]
theorem isproc_any (k:Int) (hk:k=4∨k=16) (w:World):Calls Tryz.prog 78 #[.int .i64 k] w fun e w'=>e= .returned (.bool false)∧w=w':=by
 rcases hk with rfl | rfl
 all_goals
  go_enter Tryz.func78,Tryz.ntmps78;go_wp2;go_ret;exact⟨rfl,rfl⟩
structure NmB (w:World) (mb mm cb:Nat):Prop where
 m:w.cell? ⟨mb,0,none⟩=some (.map (some mm))
 e:w.heap[mm]?=some (.map #[] 0)
 c:w.cell? ⟨cb,0,none⟩=some (.func (.func 78) #[] #[])
theorem NmB.below {w w':World} {mb mm cb:Nat} (h:NmB w mb mm cb) (hb:Below w.heap.size w w'):NmB w' mb mm cb:=
 ⟨(hb.cell (World.block_lt_of_cell? w _ h.m)).trans h.m,(hb.block _ (Array.getElem?_eq_some_iff.mp h.e).1).trans h.e,(hb.cell (World.block_lt_of_cell? w _ h.c)).trans h.c⟩
theorem clo_any (k ek en:Int) (lp lx lb le lu:Option Addr) (cp nx cx nb cb ce cu:Nat) (ens eop:ByteArray) (p:Int) (hk:k=4∨k=16) (mb mm cc ab:Nat) (w:World) (h:NmB w mb mm cc):
  Calls Tryz.prog 113 #[.agg (v13 k ek en lp lx lb le lu cp nx cx nb cb ce cu ens eop p),.pointer (some ⟨mb,0,none⟩),.pointer (some ⟨cc,0,none⟩),.pointer (some ⟨ab,0,none⟩)] w fun e w'=>e= .returned (.tuple #[])∧Below w.heap.size w w':=by
 have hb1:Below w.heap.size w (w.alloc (.cells (v13 k ek en lp lx lb le lu cp nx cx nb cb ce cu ens eop p) 67)):=(Below.refl _ _).alloc (Nat.le_refl _) _;have h1:=h.below hb1;have hlk:=look_empty (t:=182) h1.e Tryz.underlying182 (zero184 _) ⟨#[]⟩ (Nat.zero_le _);have KI:Hid (∀ w',Calls Tryz.prog 78 #[.int .i64 k] w' fun e w2=>e= .returned (.bool false)∧w'=w2):=Lib.hid fun w'=>isproc_any k hk w'
 have hm:=h1.m;have hc:=h1.c;have HB:Hid (∀ o o',Below w.heap.size w ((w.alloc o).alloc o')):=Lib.hid fun o o'=>((Below.refl _ _).alloc (Nat.le_refl _) _).alloc (by simp) _
 have hc2:∀ o,((w.alloc (.cells (v13 k ek en lp lx lb le lu cp nx cx nb cb ce cu ens eop p) 67)).alloc o).cell? ⟨cc,0,none⟩=some (.func (.func 78) #[] #[]):=fun o=>(h1.below ((Below.refl _ _).alloc (Nat.le_refl _) o)).c
 clear h h1 hb1 hk;go_enter Tryz.func113,Tryz.ntmps113;go_wp2_with (go_at_call 78;((with_reducible refine(KI.out _).mono ?_));rintro e w' ⟨rfl,rfl⟩);refine bodyPost_ret (results_none (by rfl) _ _ _) rfl ?_;exact⟨rfl,HB.out _ _⟩
end
abbrev cloV (mb cc ab:Nat):Value:= .func (.func 113) #[] #[.pointer (some ⟨mb,0,none⟩),.pointer (some ⟨cc,0,none⟩),.pointer (some ⟨ab,0,none⟩)]
theorem each_nil (A:Option Addr) (c mb cc ab:Nat) (w:World):Calls Tryz.prog 112 #[.slice A 0 c,cloV mb cc ab] w fun e w'=>e= .returned (.tuple #[])∧Below w.heap.size w w':=by
 go_enter Tryz.func112,Tryz.ntmps112;go_wp2
 go_loopw [10] (fun i wr=>i= .int .i64 0∧wr=w) (fun i _=>0)
 case atStart=>exact⟨rfl,rfl⟩
 case round=>
  obtain⟨rfl,rfl⟩:=hrel;go_wp2
  first | go_end0 | (refine bodyPost_ret (results_none (by rfl) _ _ _) rfl ?_)
  exact⟨rfl,Below.refl _ _⟩
theorem each_one (ad:Addr) (c1:Nat) (k ek en:Int) (lp lx lb le lu:Option Addr) (cp nx cx nb cb ce cu:Nat) (ens eop:ByteArray) (p:Int) (mb mm cc ab:Nat) (w:World)
  (hl:LieL w ad (v13 k ek en lp lx lb le lu cp nx cx nb cb ce cu ens eop p).toList) (hk:k=4∨k=16) (h:NmB w mb mm cc)
  (KB:∀ w',Below w.heap.size w w'→Calls Tryz.prog 112 #[.slice lb nb cb,cloV mb cc ab] w' fun e w2=>e= .returned (.tuple #[])∧Below w'.heap.size w' w2):
  Calls Tryz.prog 112 #[.slice (some ad) 1 c1,cloV mb cc ab] w fun e w'=>e= .returned (.tuple #[])∧Below w.heap.size w w':=by
 have HL:=Lib.hid hl;have HKB:=Lib.hid KB;have KC:Hid (∀ w',Below w.heap.size w w'→Calls Tryz.prog 113 #[.agg (v13 k ek en lp lx lb le lu cp nx cx nb cb ce cu ens eop p),.pointer (some ⟨mb,0,none⟩),.pointer (some ⟨cc,0,none⟩),.pointer (some ⟨ab,0,none⟩)] w' fun e w2=>e= .returned (.tuple #[])∧Below w'.heap.size w' w2):=Lib.hid fun w' hw=>clo_any k ek en lp lx lb le lu cp nx cx nb cb ce cu ens eop p hk mb mm cc ab w' (h.below hw)
 have KE:Hid (∀ w',Calls Tryz.prog 112 #[.slice le 0 ce,cloV mb cc ab] w' fun e w2=>e= .returned (.tuple #[])∧Below w'.heap.size w' w2):=Lib.hid fun w'=>each_nil le ce mb cc ab w'
 clear hl hk h KB;go_enter Tryz.func112,Tryz.ntmps112;go_wp2
 go_loopw [10] (fun i wr=>∃ j:Nat,j≤1∧i= .int .i64 j∧Hid (Below w.heap.size w wr)) (fun i _=>1 - (intOf i).toNat)
 case atStart=>exact⟨0,by omega,rfl,Lib.hid (Below.refl _ _)⟩
 case round=>
  obtain⟨j,hj,rfl,HB⟩:=hrel;obtain⟨V,hV⟩:∃ V,V=wr:=⟨_,rfl⟩;subst hV;by_cases a:j=0
  ·subst a
   obtain⟨q0,q1,q2,q3,q4,q5,q6,q7,q8,q9,q10,q11,q12⟩:=(HL.out.below HB.out).at13;have hbt:ad.block<V.heap.size:=World.block_lt_of_cell? V _ q0;have HBX:=Lib.hid (one_box13 V (v13 k ek en lp lx lb le lu cp nx cx nb cb ce cu ens eop p).toList (by simp) 67);have HNB:Hid (Below V.heap.size V (V.alloc (.cells (v13 k ek en lp lx lb le lu cp nx cx nb cb ce cu ens eop p) 67))):=Lib.hid (one_boxX V _);have H9:=Lib.hid fun W' hw=>(HBX.out W' hw).at_ 9 _ rfl
   have H10:=Lib.hid fun W' hw=>(HBX.out W' hw).at_ 10 _ rfl
   have H11:=Lib.hid fun W' hw=>(HBX.out W' hw).at_ 11 _ rfl
   clear HBX
   go_wp2_with (first
    | (go_at_call 113;((with_reducible refine(KC.out _ (HB.out.trans (HNB.out.mono HB.out.size))).mono ?_));rintro _ w1 ⟨rfl,hb1⟩;have HB1:=Lib.hid hb1;have y9:=H9.out _ HB1.out;have y10:=H10.out _ HB1.out;have y11:=H11.out _ HB1.out;clear hb1)
    | (go_at_call 112;(with_reducible refine(HKB.out _ (HB.out.trans ((HNB.out.trans (HB1.out.mono HNB.out.size)).mono HB.out.size))).mono ?_);rintro _ w2 ⟨rfl,hb2⟩;clear y9 y10 y11;have HB2:=Lib.hid (HB1.out.trans (hb2.mono HB1.out.size));have y10:=H10.out _ HB2.out;have y11:=H11.out _ HB2.out;clear hb2)
    | (go_at_call 112;(with_reducible refine(KE.out _).mono ?_);rintro _ w3 ⟨rfl,hb3⟩;clear y10 y11;have HB3:=Lib.hid (HB2.out.trans (hb3.mono HB2.out.size));have y11:=H11.out _ HB3.out;clear hb3)
    | fail)
   have HW:Hid (Below w.heap.size w w3):=Lib.hid (HB.out.trans ((HNB.out.trans (HB3.out.mono HNB.out.size)).mono HB.out.size));clear y11 q0 q1 q2 q3 q4 q5 q6 q7 q8 q9 q10 q11 q12
   go_loopw [28] (fun i wr2=>i= .int .i64 0∧Hid (Below w.heap.size w wr2)) (fun i _=>0)
   case atStart=>exact⟨rfl,HW⟩
   case round=>
    obtain⟨rfl,HW2⟩:=hrel;go_wp2
    go_roundw
    case rel=>exact⟨1,by omega,by go_num,HW2⟩
    case measure=>simp[intOf]
  ·obtain rfl:j=1:=by omega
   go_wp2
   first | go_end0 | (refine bodyPost_ret (results_none (by rfl) _ _ _) rfl ?_)
   exact⟨rfl,HB.out⟩
theorem cmX_at {w:World} {A:Option Addr} (h:RowC (LtX w.heap.size) w A [cmX]):∃ (ad:Addr) (lk:Lk),A=some ad∧LieL w ad (v13 16 0 0 lk.p lk.x lk.b lk.e lk.u lk.cp 0 lk.cx 0 lk.cb lk.ce lk.cu ⟨#[]⟩ ⟨#[]⟩ 8).toList:=by
 obtain⟨ad,lk,rfl,_,h1,_⟩:=rowC_at h (Below.refl _ _) (x:=cmX) (j:=0) rfl;rw[Nat.zero_mul,show ad.add 0=ad by simp[Addr.add]] at h1;exact⟨ad,lk,rfl,h1⟩
theorem cmI_at {w:World} {A:Option Addr} (h:RowC (LtX w.heap.size) w A [cmI]):∃ (ad:Addr) (lk:Lk),A=some ad∧LieL w ad (v13 4 0 1 lk.p lk.x lk.b lk.e lk.u lk.cp 0 lk.cx 1 lk.cb lk.ce lk.cu ⟨#[]⟩ ⟨#[]⟩ 0).toList∧RowC (LtX w.heap.size) w lk.b [cmX]:=by
 obtain⟨ad,lk,rfl,_,h1,h2⟩:=rowC_at h (Below.refl _ _) (x:=cmI) (j:=0) rfl;rw[Nat.zero_mul,show ad.add 0=ad by simp[Addr.add]] at h1;exact⟨ad,lk,rfl,h1,(kidC_eq.1 h2).2.2.1⟩
theorem each_X (A:Option Addr) (c mb mm cc ab:Nat) (w:World) (h:RowC (LtX w.heap.size) w A [cmX]) (hN:NmB w mb mm cc):Calls Tryz.prog 112 #[.slice A 1 c,cloV mb cc ab] w fun e w'=>e= .returned (.tuple #[])∧Below w.heap.size w w':=by
 obtain⟨ad,lk,rfl,hl⟩:=cmX_at h;exact each_one ad c _ _ _ _ _ _ _ _ _ _ _ _ _ _ _ _ _ _ mb mm cc ab w hl (.inr rfl) hN fun w' _=>each_nil _ _ mb cc ab w'
theorem each_I (A:Option Addr) (c mb mm cc ab:Nat) (w:World) (h:RowC (LtX w.heap.size) w A [cmI]) (hN:NmB w mb mm cc):Calls Tryz.prog 112 #[.slice A 1 c,cloV mb cc ab] w fun e w'=>e= .returned (.tuple #[])∧Below w.heap.size w w':=by
 obtain⟨ad,lk,rfl,hl,hb⟩:=cmI_at h;exact each_one ad c _ _ _ _ _ _ _ _ _ _ _ _ _ _ _ _ _ _ mb mm cc ab w hl (.inl rfl) hN fun w' hw=>each_X _ _ mb mm cc ab w' (hb.next hw) (hN.below hw)
theorem names_I (A:Option Addr) (c:Nat) (w:World) (h:RowC (LtX w.heap.size) w A [cmI]):Calls Tryz.prog 77 #[.slice A 1 c,.func (.func 78) #[] #[]] w fun e w'=>e= .returned (.slice none 0 0)∧Below w.heap.size w w':=by
 have KE:Hid (∀ w' mb mm cc ab,Below w.heap.size w w'→NmB w' mb mm cc→Calls Tryz.prog 112 #[.slice A 1 c,cloV mb cc ab] w' fun e w2=>e= .returned (.tuple #[])∧Below w'.heap.size w' w2):=Lib.hid fun w' mb mm cc ab hw hN=>each_I A c mb mm cc ab w' (h.next hw) hN
 clear h;have hmm:=@run_makeMap Tryz.prog;obtain⟨W,hW⟩:∃ W,W=(((w.alloc (.cells #[.func (.func 78) #[] #[]] 142)).alloc (.cells #[.slice none 0 0] 52)).alloc (.map #[] 0)).alloc (.cells #[.map (some (w.heap.size+1+1))] 182):=⟨_,rfl⟩;have HW:=Lib.hid hW;have HB:Hid (Below w.heap.size w W):=Lib.hid (by rw[hW];exact((((Below.refl _ _).alloc (Nat.le_refl _) _).alloc (by simp) _).alloc (by simp;omega) _).alloc (by simp;omega) _)
 have HN:Hid (NmB W (w.heap.size+1+1+1) (w.heap.size+1+1) w.heap.size):=Lib.hid (by
  rw[hW];refine⟨by simp[go_sem],?_,by simp[go_sem]⟩;rw[heap_alloc_old _ _ (by simp)];have:=heap_alloc_new ((w.alloc (.cells #[.func (.func 78) #[] #[]] 142)).alloc (.cells #[.slice none 0 0] 52)) (.map #[] 0);simpa using this)
 have HA:Hid (W.cell? ⟨w.heap.size+1,0,none⟩=some (.slice none 0 0)):=Lib.hid (by rw[hW];simp[go_sem]);clear hW;go_enter Tryz.func77,Tryz.ntmps77;go_wp2_with fail;rw[←HW.out];refine(KE.out _ _ _ _ _ HB.out HN.out).mono ?_;rintro _ w1 ⟨rfl,hb1⟩;have hc:=(hb1.cell (World.block_lt_of_cell? W _ HA.out)).trans HA.out;have HB1:=Lib.hid (HB.out.trans (hb1.mono HB.out.size));clear hb1 hmm;go_wp2;go_ret;exact⟨rfl,HB1.out⟩
theorem procs_I (A:Option Addr) (c:Nat) (w:World) (h:RowC (LtX w.heap.size) w A [cmI]):Calls Tryz.prog 51 #[.slice A 1 c] w fun e w'=>e= .returned (.slice none 0 0)∧Below w.heap.size w w':=by
 have K:=Lib.hid (names_I A c w h);clear h;go_enter Tryz.func51,Tryz.ntmps51;go_wp2_with (go_at_call 77;((with_reducible refine(K.out).mono ?_));rintro _ w1 ⟨rfl,hb1⟩);go_ret;exact⟨rfl,hb1⟩
theorem newchk_I (A:Option Addr) (c:Nat) (w:World) (h:RowC (LtX w.heap.size) w A [cmI]):Calls Tryz.prog 34 #[.slice A 1 c,.int .i64 8] w fun e w'=>∃ a,e= .returned (.pointer (some a))∧Below w.heap.size w w':=by
 have KE:Hid (∀ w',Below w.heap.size w w'→Calls Tryz.prog 51 #[.slice A 1 c] w' fun e w2=>e= .returned (.slice none 0 0)∧Below w'.heap.size w' w2):=Lib.hid fun w' hw=>procs_I A c w' (h.next hw)
 have HB:Hid (Below w.heap.size w (w.alloc (.map #[] 0))):=Lib.hid (one_boxX w _);have hmm:=@run_makeMap Tryz.prog;clear h
 suffices hs:Calls Tryz.prog 34 #[.slice A 1 c,.int .i64 8] w fun e w'=>Hid (∃ a,e= .returned (.pointer (some a))∧Below w.heap.size w w') from hs.mono fun e w' h=>h.out
 go_enter Tryz.func34,Tryz.ntmps34;go_wp2_with (go_at_call 51;((with_reducible refine(KE.out _ HB.out).mono ?_));rintro _ w1 ⟨rfl,hb1⟩;have HB1:=Lib.hid (HB.out.trans (hb1.mono HB.out.size));clear hb1);clear hmm
 go_loopw [12] (fun i wr=>i= .int .i64 0∧Hid (Below w.heap.size w wr)) (fun i _=>0)
 case atStart=>exact⟨rfl,HB1⟩
 case round=>
  obtain⟨rfl,HB2⟩:=hrel;go_wp2;go_ret;exact Lib.hid ⟨_,rfl,HB2.out.alloc HB2.out.size _⟩
theorem chkcmd_any (q:Value) (x y:Bool) (k ek en:Int) (lp lx lb le lu:Option Addr) (cp nx cx nb cb ce cu:Nat) (ens eop:ByteArray) (p:Int) (hk:k=4∨k=16) (w:World):
  Calls Tryz.prog 52 #[q,.agg (v13 k ek en lp lx lb le lu cp nx cx nb cb ce cu ens eop p),.agg #[.bool x,.bool y]] w fun e w'=>e= .returned (.int .i64 0)∧Below w.heap.size w w':=by
 have HB:Hid (∀ o o',Below w.heap.size w ((w.alloc o).alloc o')):=Lib.hid fun o o'=>((Below.refl _ _).alloc (Nat.le_refl _) _).alloc (by simp) _
 rcases hk with rfl | rfl
 all_goals
  go_enter Tryz.func52,Tryz.ntmps52;go_wp2;go_ret;exact⟨rfl,HB.out _ _⟩
theorem chkcmds_nil (q:Value) (A:Option Addr) (c:Nat) (x y:Bool) (w:World):Calls Tryz.prog 35 #[q,.slice A 0 c,.agg #[.bool x,.bool y]] w fun e w'=>e= .returned (.tuple #[.int .i64 0,.int .i64 0])∧Below w.heap.size w w':=by
 have HB:Hid (∀ o,Below w.heap.size w (w.alloc o)):=Lib.hid (one_boxX w);go_enter Tryz.func35,Tryz.ntmps35;go_wp2
 go_loopw [15] (fun i wr=>i= .int .i64 0∧Hid (Below w.heap.size w wr)) (fun i _=>0)
 case atStart=>exact⟨rfl,Lib.hid (HB.out _)⟩
 case round=>
  obtain⟨rfl,HB2⟩:=hrel;go_wp2
  go_ret2
  exact⟨rfl,HB2.out⟩
theorem chkrules_nil (q:Value) (A:Option Addr) (c:Nat) (w:World):Calls Tryz.prog 81 #[q,.slice A 0 c] w fun e w'=>e= .returned (.tuple #[.int .i64 0,.int .i64 0])∧Below w.heap.size w w':=by
 go_enter Tryz.func81,Tryz.ntmps81;go_wp2
 go_loopw [13] (fun i wr=>i= .int .i64 0∧Hid (Below w.heap.size w wr)) (fun i _=>0)
 case atStart=>exact⟨rfl,Lib.hid (Below.refl _ _)⟩
 case round=>
  obtain⟨rfl,HB2⟩:=hrel;go_wp2
  go_ret2
  exact⟨rfl,HB2.out⟩
theorem chkwithin_any (q:Value) (x:Bool) (k ek en:Int) (lp lx lb le lu:Option Addr) (cp nx cx nb cb ce cu:Nat) (ens eop:ByteArray) (p:Int) (w:World)
  (KB:∀ w',Below w.heap.size w w'→Calls Tryz.prog 35 #[q,.slice lb nb cb,.agg #[.bool true,.bool false]] w' fun e w2=>e= .returned (.tuple #[.int .i64 0,.int .i64 0])∧Below w'.heap.size w' w2):
  Calls Tryz.prog 53 #[q,.agg (v13 k ek en lp lx lb le lu cp nx cx nb cb ce cu ens eop p),.agg #[.bool x,.bool false]] w fun e w'=>e= .returned (.tuple #[.int .i64 0,.int .i64 0])∧Below w.heap.size w w':=by
 have HKB:=Lib.hid KB;have KE:Hid (∀ w',Calls Tryz.prog 35 #[q,.slice le 0 ce,.agg #[.bool true,.bool false]] w' fun e w2=>e= .returned (.tuple #[.int .i64 0,.int .i64 0])∧Below w'.heap.size w' w2):=Lib.hid fun w'=>chkcmds_nil q le ce true false w'
 have KR:Hid (∀ w',Calls Tryz.prog 81 #[q,.slice lu 0 cu] w' fun e w2=>e= .returned (.tuple #[.int .i64 0,.int .i64 0])∧Below w'.heap.size w' w2):=Lib.hid fun w'=>chkrules_nil q lu cu w'
 obtain⟨W,hW⟩:∃ W,W=((w.alloc (.cells (v13 k ek en lp lx lb le lu cp nx cx nb cb ce cu ens eop p) 67)).alloc (.cells #[.bool x,.bool false] 95)).alloc (.cells #[.bool true,.bool false] 95):=⟨_,rfl⟩;have HW:=Lib.hid hW;have HB:Hid (Below w.heap.size w W):=Lib.hid (by rw[hW];exact(((Below.refl _ _).alloc (Nat.le_refl _) _).alloc (by simp) _).alloc (by simp;omega) _)
 have HC:Hid (∀ W',Below W.heap.size W W'→W'.cell? ⟨w.heap.size,9,none⟩=some (.slice lb nb cb)∧W'.cell? ⟨w.heap.size,10,none⟩=some (.slice le 0 ce)∧W'.cell? ⟨w.heap.size,11,none⟩=some (.slice lu 0 cu)∧W'.cell? ⟨w.heap.size+1+1,0,none⟩=some (.bool true)∧W'.cell? ⟨w.heap.size+1+1,1,none⟩=some (.bool false)):=Lib.hid fun W' hw=>by
  have k:∀ a u,W.cell? a=some u→W'.cell? a=some u:=fun a u h=>(hw.cell (World.block_lt_of_cell? W _ h)).trans h
  refine⟨k _ _ ?_,k _ _ ?_,k _ _ ?_,k _ _ ?_,k _ _ ?_⟩
  all_goals (rw[hW];simp[go_sem])
 clear KB hW;obtain⟨d9,d10,d11,g0,g1⟩:=HC.out W (Below.refl _ _);go_enter Tryz.func53,Tryz.ntmps53;go_wp2_with fail;rw[←HW.out];refine(HKB.out _ HB.out).mono ?_;rintro _ w1 ⟨rfl,hb1⟩;have HB1:=Lib.hid hb1;clear hb1 d9 d10 d11 g0 g1;obtain⟨d9,d10,d11,g0,g1⟩:=HC.out w1 HB1.out;go_wp2_with fail;refine(KE.out _).mono ?_;rintro _ w2 ⟨rfl,hb2⟩;have HB2:=Lib.hid (HB1.out.trans (hb2.mono HB1.out.size));clear hb2 d9 d10 d11 g0 g1;obtain⟨d9,d10,d11,g0,g1⟩:=HC.out w2 HB2.out;go_wp2_with fail;refine(KR.out _).mono ?_;rintro _ w3 ⟨rfl,hb3⟩;have HB3:=Lib.hid (HB2.out.trans (hb3.mono HB2.out.size));clear hb3 d9 d10 d11 g0 g1;go_wp2
 go_ret2
 exact⟨rfl,HB.out.trans (HB3.out.mono HB.out.size)⟩
theorem boxL_lie {w:World} {b:Nat} {vs:List Value} (h:BoxL w b vs):LieL w ⟨b,0,none⟩ vs:=fun i u hu=>by
 have:=h.at_ i u hu
 unfold Addr.add;split
 ·rename_i e;subst e;exact this
 ·simpa using this
theorem chkcmds_one (q:Value) (ad:Addr) (c1:Nat) (x:Bool) (k ek en:Int) (lp lx lb le lu:Option Addr) (cp nx cx nb cb ce cu:Nat) (ens eop:ByteArray) (p:Int) (w:World)
  (hl:LieL w ad (v13 k ek en lp lx lb le lu cp nx cx nb cb ce cu ens eop p).toList) (hk:k=4∨k=16)
  (KB:∀ w',Below w.heap.size w w'→Calls Tryz.prog 35 #[q,.slice lb nb cb,.agg #[.bool true,.bool false]] w' fun e w2=>e= .returned (.tuple #[.int .i64 0,.int .i64 0])∧Below w'.heap.size w' w2):
  Calls Tryz.prog 35 #[q,.slice (some ad) 1 c1,.agg #[.bool x,.bool false]] w fun e w'=>e= .returned (.tuple #[.int .i64 0,.int .i64 0])∧Below w.heap.size w w':=by
 have HL:=Lib.hid hl;have KC:Hid (∀ w',Calls Tryz.prog 52 #[q,.agg (v13 k ek en lp lx lb le lu cp nx cx nb cb ce cu ens eop p),.agg #[.bool x,.bool false]] w' fun e w2=>e= .returned (.int .i64 0)∧Below w'.heap.size w' w2):=Lib.hid fun w'=>chkcmd_any q x false k ek en lp lx lb le lu cp nx cx nb cb ce cu ens eop p hk w'
 have KW:Hid (∀ w',Below w.heap.size w w'→Calls Tryz.prog 53 #[q,.agg (v13 k ek en lp lx lb le lu cp nx cx nb cb ce cu ens eop p),.agg #[.bool x,.bool false]] w' fun e w2=>e= .returned (.tuple #[.int .i64 0,.int .i64 0])∧Below w'.heap.size w' w2):=Lib.hid fun w' hw=>chkwithin_any q x k ek en lp lx lb le lu cp nx cx nb cb ce cu ens eop p w' fun w2 hw2=>KB w2 (hw.trans (hw2.mono hw.size))
 obtain⟨W0,hW0⟩:∃ W,W=w.alloc (.cells #[.bool x,.bool false] 95):=⟨_,rfl⟩;have H0:Hid (Below w.heap.size w W0):=Lib.hid (by rw[hW0];exact one_boxX w _);have HA0:Hid (W0.cell? ⟨w.heap.size,0,none⟩=some (.bool x)∧W0.cell? ⟨w.heap.size,1,none⟩=some (.bool false)):=Lib.hid (by rw[hW0];exact⟨by simp[go_sem],by simp[go_sem]⟩);have HW0:=Lib.hid hW0;clear hl hk KB hW0;go_enter Tryz.func35,Tryz.ntmps35;go_wp2;rw[←HW0.out]
 go_loopw [15] (fun i wr=>∃ j:Nat,j≤1∧i= .int .i64 j∧Hid (Below W0.heap.size W0 wr)) (fun i _=>1 - (intOf i).toNat)
 case atStart=>exact⟨0,by omega,rfl,Lib.hid (Below.refl _ _)⟩
 case round=>
  obtain⟨j,hj,rfl,HB⟩:=hrel;obtain⟨V,hV⟩:∃ V,V=wr:=⟨_,rfl⟩;subst hV;by_cases a:j=0
  ·subst a
   have hwV:=H0.out.trans (HB.out.mono H0.out.size);obtain⟨q0,q1,q2,q3,q4,q5,q6,q7,q8,q9,q10,q11,q12⟩:=(HL.out.below hwV).at13;have hbt:ad.block<V.heap.size:=World.block_lt_of_cell? V _ q0;have HBX:=Lib.hid (one_box13 V (v13 k ek en lp lx lb le lu cp nx cx nb cb ce cu ens eop p).toList (by simp) 67);obtain⟨U,hU⟩:∃ U,U=V.alloc (.cells (v13 k ek en lp lx lb le lu cp nx cx nb cb ce cu ens eop p) 67):=⟨_,rfl⟩;have HU:=Lib.hid hU;have HVU:Hid (Below V.heap.size V U):=Lib.hid (by rw[hU];exact one_boxX V _);have HWU:Hid (Below w.heap.size w U):=Lib.hid (hwV.trans (HVU.out.mono hwV.size));have HCB:Hid (∀ W',Below U.heap.size U W'→BoxL W' V.heap.size (v13 k ek en lp lx lb le lu cp nx cx nb cb ce cu ens eop p).toList):=Lib.hid fun W' hw=>HBX.out W' (by rw[hU] at hw;exact hw)
   have HAR:Hid (∀ W',Below U.heap.size U W'→W'.cell? ⟨w.heap.size,0,none⟩=some (.bool x)∧W'.cell? ⟨w.heap.size,1,none⟩=some (.bool false)):=Lib.hid fun W' hw=>by
    have hb:=HB.out.trans ((HVU.out.trans (hw.mono HVU.out.size)).mono HB.out.size);exact⟨(hb.cell (World.block_lt_of_cell? W0 _ HA0.out.1)).trans HA0.out.1,(hb.cell (World.block_lt_of_cell? W0 _ HA0.out.2)).trans HA0.out.2⟩
   clear hU HBX hwV;have e0:=(HB.out.cell (World.block_lt_of_cell? W0 _ HA0.out.1)).trans HA0.out.1;have e1:=(HB.out.cell (World.block_lt_of_cell? W0 _ HA0.out.2)).trans HA0.out.2;have hlt:w.heap.size<V.heap.size:=World.block_lt_of_cell? V _ e0;go_wp2_with fail;rw[←HU.out];refine(KC.out _).mono ?_;rintro _ w1 ⟨rfl,hb1⟩;have HB1:=Lib.hid hb1;clear hb1 e0 e1 q0 q1 q2 q3 q4 q5 q6 q7 q8 q9 q10 q11 q12;obtain⟨g0,g1⟩:=HAR.out w1 HB1.out;obtain⟨p0,p1,p2,p3,p4,p5,p6,p7,p8,p9,p10,p11,p12⟩:=(boxL_lie (HCB.out w1 HB1.out)).at13;go_wp2_with fail;refine(KW.out _ (HWU.out.trans (HB1.out.mono HWU.out.size))).mono ?_;rintro _ w2 ⟨rfl,hb2⟩;have HB2:Hid (Below W0.heap.size W0 w2):=Lib.hid (HB.out.trans ((HVU.out.trans ((HB1.out.trans (hb2.mono HB1.out.size)).mono HVU.out.size)).mono HB.out.size));clear hb2 g0 g1 p0 p1 p2 p3 p4 p5 p6 p7 p8 p9 p10 p11 p12;go_wp2
   go_roundw
   case rel=>exact⟨1,by omega,by go_num,HB2⟩
   case measure=>simp[intOf]
  ·obtain rfl:j=1:=by omega
   go_wp2
   go_ret2
   exact⟨rfl,H0.out.trans (HB.out.mono H0.out.size)⟩
theorem pm_X:PMc cmX:=fun o lk w _ _ _ _=>mayb_16 _ _ _ _ _ _ _ _ _ _ _ o w
theorem pm_I:PMc cmI:=by
 intro o lk w h0 h1 hy hk;rw[kidC_eq] at hk;obtain⟨_,k3,k4,k5,_⟩:=hk;obtain⟨lp,lcp,lx,lcx,lb,lcb,le,lce,lu,lcu⟩:=lk
 cases hy with
 | k4 a1 a2 a3 a4 a5 a6=>
   have hX:∀ x∈[cmX],PMc x:=fun x hx=>by rw[List.mem_singleton.1 hx];exact pm_X
   refine mayb_4 _ _ _ _ _ _ _ _ _ _ _ _ _ _ _ _ _ _ o w (Lib.hid fun w' hw=>?_) (Lib.hid fun w' hw=>mblock_any [cmX] hX o lb lcb w' h0 a2 a5 (k4.next hw) a3) (Lib.hid fun w' hw=>mblock_any [] (fun x hx=>by cases hx) o le lce w' h0 a2 a6 (k5.next hw) a4);have:=cmay_any exO lx lcx w' (k3.next hw) a1.2.1 a1.2.2;rw[a1.1,valX_eq] at this;exact this
theorem my_I:∀ x∈[cmI],MyC 0 x:=fun x hx=>by
 rw[List.mem_singleton.1 hx];exact .k4 ⟨by decide,by decide,by decide⟩ (by decide) (by decide) (by decide) (fun c hc=>by rw[List.mem_singleton.1 hc];exact .k16) fun c hc=>by cases hc
theorem smay_I (A:Option Addr) (c:Nat) (w:World) (hk:RowC (LtX w.heap.size) w A [cmI]):Calls Tryz.prog 33 #[.slice A 1 c] w fun e w'=>e= .returned (.bool true)∧Below w.heap.size w w':=by
 have K:Hid (∀ w',Below w.heap.size w w'→Calls Tryz.prog 50 #[.slice A 1 c,.int .i64 0] w' fun e w2=>e= .returned (.bool true)∧Below w'.heap.size w' w2):=Lib.hid fun w' hw=>mstand_list [cmI] (fun x hx=>by rw[List.mem_singleton.1 hx];exact pm_I) 0 A c w' (by decide) (by decide) my_I (hk.next hw) (by decide)
 clear hk;go_enter Tryz.func33,Tryz.ntmps33;go_wp2_with (go_at_call 50;go_must ((with_reducible refine(K.out _ (Below.refl _ _)).mono ?_);rintro e w3 ⟨rfl,hb3⟩;have HB3:=Lib.hid hb3;clear hb3));go_ret;exact⟨rfl,HB3.out⟩
theorem chk_X (q:Value) (x:Bool) (A:Option Addr) (c:Nat) (w:World) (h:RowC (LtX w.heap.size) w A [cmX]):Calls Tryz.prog 35 #[q,.slice A 1 c,.agg #[.bool x,.bool false]] w fun e w'=>e= .returned (.tuple #[.int .i64 0,.int .i64 0])∧Below w.heap.size w w':=by
 obtain⟨ad,lk,rfl,hl⟩:=cmX_at h;exact chkcmds_one q ad c x _ _ _ _ _ _ _ _ _ _ _ _ _ _ _ _ _ _ w hl (.inr rfl) fun w' _=>chkcmds_nil q _ _ true false w'
theorem chk_I (q:Value) (x:Bool) (A:Option Addr) (c:Nat) (w:World) (h:RowC (LtX w.heap.size) w A [cmI]):Calls Tryz.prog 35 #[q,.slice A 1 c,.agg #[.bool x,.bool false]] w fun e w'=>e= .returned (.tuple #[.int .i64 0,.int .i64 0])∧Below w.heap.size w w':=by
 obtain⟨ad,lk,rfl,hl,hb⟩:=cmI_at h;exact chkcmds_one q ad c x _ _ _ _ _ _ _ _ _ _ _ _ _ _ _ _ _ _ w hl (.inl rfl) fun w' hw=>chk_X q true _ _ w' (hb.next hw)
theorem check_I (A:Option Addr) (c:Nat) (w:World) (h:RowC (LtX w.heap.size) w A [cmI]):Calls Tryz.prog 16 #[.slice A 1 c,.int .i64 8] w fun e w'=>e= .returned (.tuple #[.int .i64 0,.int .i64 0])∧Below w.heap.size w w':=by
 have KM:Hid (Calls Tryz.prog 33 #[.slice A 1 c] w fun e w'=>e= .returned (.bool true)∧Below w.heap.size w w'):=Lib.hid (smay_I A c w h);have KN:Hid (∀ w',Below w.heap.size w w'→Calls Tryz.prog 34 #[.slice A 1 c,.int .i64 8] w' fun e w2=>∃ a,e= .returned (.pointer (some a))∧Below w'.heap.size w' w2):=Lib.hid fun w' hw=>newchk_I A c w' (h.next hw)
 have KC:Hid (∀ w' q,Below w.heap.size w w'→Calls Tryz.prog 35 #[q,.slice A 1 c,.agg #[.bool false,.bool false]] w' fun e w2=>e= .returned (.tuple #[.int .i64 0,.int .i64 0])∧Below w'.heap.size w' w2):=Lib.hid fun w' q hw=>chk_I q false A c w' (h.next hw)
 clear h;go_enter Tryz.func16,Tryz.ntmps16
 go_wp2_with (first
  | (go_at_call 33;((with_reducible refine(KM.out).mono ?_));rintro _ w1 ⟨rfl,hb1⟩;have HB1:=Lib.hid hb1;clear hb1)
  | (go_at_call 34;((with_reducible refine(KN.out _ HB1.out).mono ?_));rintro _ w2 ⟨a2,rfl,hb2⟩;have HB2:=Lib.hid (HB1.out.trans (hb2.mono HB1.out.size));clear hb2)
  | (go_at_call 35;((with_reducible refine(KC.out _ _ HB2.out).mono ?_));rintro _ w3 ⟨rfl,hb3⟩;have HB3:=Lib.hid (HB2.out.trans (hb3.mono HB2.out.size));clear hb3))
 go_ret2
 exact⟨rfl,HB3.out⟩
abbrev insOp (op a:Int):Ins:=⟨op,a,⟨#[]⟩,0,none,0,0,0,0,⟨#[]⟩,⟨#[]⟩,none,0,0,none,0,0⟩
abbrev insIf (a ek en:Int) (S O:ByteArray) (X:Option Addr) (c:Nat):Ins:=⟨5,a,⟨#[]⟩,0,none,0,0,ek,en,S,O,X,0,c,none,0,0⟩
theorem addcmd_X {w0 w:World} {mb:Nat} {is:List Ins} (lp lx lb le lu:Option Addr) (cp nx cx nb cb ce cu:Nat) (ens eop:ByteArray) (ek en p:Int) (h:MkI w0 mb w is) (hn:is.length≤900):
  Calls Tryz.prog 54 #[.pointer (some ⟨mb,0,none⟩),.agg (v13 16 ek en lp lx lb le lu cp nx cx nb cb ce cu ens eop p),.int .i64 (-1)] w fun e w'=>e= .returned (.tuple #[])∧Hid (MkI w0 mb w' (is++[insOp 16 0])∧Keep mb w w'):=by
 have KA:Hid (∀ w',Below w.heap.size w w'→Calls Tryz.prog 37 #[.pointer (some ⟨mb,0,none⟩),.agg #[.int .i64 16,.int .i64 0,.string ⟨#[]⟩,.int .i64 0,.slice none 0 0,.int .i64 0,.int .i64 0,.string ⟨#[]⟩,.string ⟨#[]⟩,.slice none 0 0,.slice none 0 0]] w' fun e w2=>e= .returned (.int .i64 is.length)∧Hid (MkI w0 mb w2 (is++[insOp 16 0])∧Keep mb w' w2)):=Lib.hid fun w' hw=>add_any (insOp 16 0) (h.next hw) (by omega)
 have HB:Hid (∀ o,Below w.heap.size w (w.alloc o)):=Lib.hid (one_boxX w);generalize is.length=N at KA;clear h hn;go_enter Tryz.func54,Tryz.ntmps54;go_wp2_with (go_at_call 37;((with_reducible refine(KA.out _ (HB.out _)).mono ?_));rintro _ w1 ⟨rfl,h1⟩)
 first | go_end0 | (refine bodyPost_ret (results_none (by rfl) _ _ _) rfl ?_)
 exact⟨rfl,Lib.hid ⟨h1.out.1,(Keep.of_below (HB.out _)).trans h1.out.2⟩⟩
theorem addcmds_one {w0 w:World} {mb:Nat} {is:List Ins} {Q:World→Prop} (ad:Addr) (c1:Nat) (k ek en:Int) (lp lx lb le lu:Option Addr) (cp nx cx nb cb ce cu:Nat) (ens eop:ByteArray) (p:Int)
  (hl:LieL w0 ad (v13 k ek en lp lx lb le lu cp nx cx nb cb ce cu ens eop p).toList) (h:MkI w0 mb w is)
  (KC:∀ w',MkI w0 mb w' is→Calls Tryz.prog 54 #[.pointer (some ⟨mb,0,none⟩),.agg (v13 k ek en lp lx lb le lu cp nx cx nb cb ce cu ens eop p),.int .i64 (-1)] w' fun e w2=>e= .returned (.tuple #[])∧Hid (Q w2∧Keep mb w' w2)):
  Calls Tryz.prog 36 #[.pointer (some ⟨mb,0,none⟩),.slice (some ad) 1 c1,.int .i64 (-1)] w fun e w'=>e= .returned (.tuple #[])∧Hid (Q w'∧Keep mb w w'):=by
 have HL:=Lib.hid hl;have HKC:=Lib.hid KC;have H0:=Lib.hid h;clear hl h KC;go_enter Tryz.func36,Tryz.ntmps36;go_wp2
 go_loopw [10] (fun i wr=>∃ j:Nat,j≤1∧i= .int .i64 j∧(j=0→Hid (MkI w0 mb wr is∧Keep mb w wr))∧(j=1→Hid (Q wr∧Keep mb w wr))) (fun i _=>1 - (intOf i).toNat)
 case atStart=>exact⟨0,by omega,rfl,fun _=>Lib.hid ⟨H0.out,fun _ _ _ a _ _=>a⟩,fun e=>by omega⟩
 case round=>
  obtain⟨j,hj,rfl,p0,p1⟩:=hrel;obtain⟨V,hV⟩:∃ V,V=wr:=⟨_,rfl⟩;subst hV;by_cases a:j=0
  ·subst a
   have HI:=p0 rfl;clear p0 p1;obtain⟨q0,q1,q2,q3,q4,q5,q6,q7,q8,q9,q10,q11,q12⟩:=(HL.out.below HI.out.1.low).at13;have hbt:ad.block<V.heap.size:=World.block_lt_of_cell? V _ q0;have HNB:Hid (Below V.heap.size V (V.alloc (.cells (v13 k ek en lp lx lb le lu cp nx cx nb cb ce cu ens eop p) 67))):=Lib.hid (one_boxX V _);have HK2:=Lib.hid (HKC.out _ (HI.out.1.next HNB.out));go_wp2_with (go_at_call 54;((with_reducible refine(HK2.out).mono ?_));rintro _ w1 ⟨rfl,h1⟩);have HX:Hid (Q w1∧Keep mb w w1):=Lib.hid ⟨h1.out.1,(HI.out.2.trans (Keep.of_below HNB.out)).trans h1.out.2⟩;clear h1
   go_roundw
   case rel=>exact⟨1,by omega,by go_num,fun e=>by omega,fun _=>HX⟩
   case measure=>simp[intOf]
  ·obtain rfl:j=1:=by omega
   have HX:=p1 rfl;clear p0 p1;go_wp2
   first | go_end0 | (refine bodyPost_ret (results_none (by rfl) _ _ _) rfl ?_)
   exact⟨rfl,HX⟩
theorem Keep.box {mb:Nat} {w w':World} (h:Keep mb w w') {k:Nat} {X:Array Value} (hx:w.heap[k]?=some (.cells X 67)) (hk:k≠mb):w'.heap[k]?=some (.cells X 67):=h k X _ hx hk (by decide)
theorem addif_I {w0 w:World} {mb:Nat} (ek en:Int) (lp lx lb le lu:Option Addr) (cp cx nb cb ce cu:Nat) (ens eop:ByteArray) (p:Int) (h:MkI w0 mb w [])
  (KB:∀ w' X c,MkI w0 mb w' [insIf 0 ek en ens eop X c]→Calls Tryz.prog 36 #[.pointer (some ⟨mb,0,none⟩),.slice lb nb cb,.int .i64 (-1)] w' fun e w2=>e= .returned (.tuple #[])∧Hid (MkI w0 mb w2 [insIf 0 ek en ens eop X c,insOp 16 0]∧Keep mb w' w2)):
  Calls Tryz.prog 83 #[.pointer (some ⟨mb,0,none⟩),.agg (v13 4 ek en lp lx lb le lu cp 0 cx nb cb ce cu ens eop p),.int .i64 (-1)] w fun e w'=>e= .returned (.tuple #[])∧Hid (∃ X c,MkI w0 mb w' [insIf 2 ek en ens eop X c,insOp 16 0]∧Keep mb w w'):=by
 have HKB:=Lib.hid KB;have H0:=Lib.hid h;have hmw:=h.lt;obtain⟨W,hW⟩:∃ W,W=w.alloc (.cells (v13 4 ek en lp lx lb le lu cp 0 cx nb cb ce cu ens eop p) 67):=⟨_,rfl⟩;have HW:=Lib.hid hW;have HB:Hid (Below w.heap.size w W):=Lib.hid (by rw[hW];exact one_boxX w _);have HBX:Hid (W.heap[w.heap.size]?=some (.cells (v13 4 ek en lp lx lb le lu cp 0 cx nb cb ce cu ens eop p) 67)):=Lib.hid (by rw[hW];exact heap_alloc_new w _);have HNE:Hid (w.heap.size≠mb):=Lib.hid (by omega);have KCP:Hid (∀ w',Calls Tryz.prog 117 #[.agg #[.int .i64 ek,.int .i64 en,.string ens,.string eop,.slice lx 0 cx]] w' (CopP w' ek en ens eop)):=Lib.hid fun w'=>copied_O ek en ens eop lx cx w'
 unfold CopP at KCP;have KA:Hid (∀ w' X c,MkI w0 mb w' []→Calls Tryz.prog 37 #[.pointer (some ⟨mb,0,none⟩),.agg #[.int .i64 5,.int .i64 0,.string ⟨#[]⟩,.int .i64 0,.slice none 0 0,.int .i64 ek,.int .i64 en,.string ens,.string eop,.slice X 0 c,.slice none 0 0]] w' fun e w2=>e= .returned (.int .i64 0)∧Hid (MkI w0 mb w2 [insIf 0 ek en ens eop X c]∧Keep mb w' w2)):=Lib.hid fun w' X c hh=>add_any (insIf 0 ek en ens eop X c) hh (by decide)
 have KM:Hid (∀ w' X c g,MkI w0 mb w' [insIf 0 ek en ens eop X c,insOp 16 0]→w'.cell? ⟨g,0,none⟩=some (.int .i64 0)→Calls Tryz.prog 118 #[.pointer (some ⟨mb,0,none⟩),.slice (some ⟨g,0,none⟩) 1 1] w' fun e w2=>e= .returned (.tuple #[])∧Hid (MkI w0 mb w2 [insIf 2 ek en ens eop X c,insOp 16 0]∧Keep mb w' w2)):=Lib.hid fun w' X c g hh hg=>aim_0 g hh (by decide) hg
 clear KB h hW hmw;go_enter Tryz.func83,Tryz.ntmps83;go_wp2_with fail;rw[←HW.out];refine(KCP.out _).mono ?_;rintro _ w1 ⟨X,c,rfl,hb1⟩;have HM1:=Lib.hid ((H0.out.next HB.out).next hb1);have HK1:Hid (Keep mb W w1):=Lib.hid (Keep.of_below hb1);clear hb1;go_wp2_with fail;refine(KA.out _ X c HM1.out).mono ?_;rintro _ w2 ⟨rfl,h2⟩;have HM2:=Lib.hid h2.out.1;have HK2:=Lib.hid (HK1.out.trans h2.out.2);have e2:=row_atO (HK2.out.box HBX.out HNE.out);have y9:=(e2 9).trans rfl;clear h2 e2;go_wp2_with fail;refine(HKB.out _ X c HM2.out).mono ?_;rintro _ w3 ⟨rfl,h3⟩;have HM3:=Lib.hid h3.out.1;have HK3:=Lib.hid (HK2.out.trans h3.out.2);have e3:=row_atO (HK3.out.box HBX.out HNE.out);have y10:=(e3 10).trans rfl;clear h3 e3 y9;have HM4:Hid (∀ o,MkI w0 mb (w3.alloc o) [insIf 0 ek en ens eop X c,insOp 16 0]):=Lib.hid fun o=>HM3.out.next (one_boxX w3 o)
 have HK4:Hid (∀ o,Keep mb W (w3.alloc o)):=Lib.hid fun o=>HK3.out.trans (Keep.of_below (one_boxX w3 o))
 have HG:Hid ((w3.alloc (.cells #[.int .i64 0] 3)).cell? ⟨w3.heap.size,0,none⟩=some (.int .i64 0)):=Lib.hid (by simp[go_sem]);go_wp2_with fail;refine(KM.out _ X c _ (HM4.out _) HG.out).mono ?_;rintro _ w5 ⟨rfl,h5⟩;have HZ:Hid (∃ X c,MkI w0 mb w5 [insIf 2 ek en ens eop X c,insOp 16 0]∧Keep mb w w5):=Lib.hid ⟨X,c,h5.out.1,(Keep.of_below HB.out).trans ((HK4.out _).trans h5.out.2)⟩;clear h5;go_wp2
 first | go_end0 | (refine bodyPost_ret (results_none (by rfl) _ _ _) rfl ?_)
 exact⟨rfl,HZ⟩
theorem flat_atI:∀ (l:List Ins) (i j:Nat) (x:Ins) (u:Value),l[i]?=some x→(cellsI x)[j]?=some u→(l.flatMap cellsI)[i * 11+j]?=some u
 | y::l,0,j,x,u,h,hu=>by
   simp at h;subst h;rw[List.flatMap_cons,Nat.zero_mul,Nat.zero_add,List.getElem?_append_left (List.getElem?_eq_some_iff.1 hu).1];exact hu
 | y::l,i+1,j,x,u,h,hu=>by
   rw[List.getElem?_cons_succ] at h;rw[List.flatMap_cons,List.getElem?_append_right (by show 11≤_;omega),show (i+1) * 11+j - (cellsI y).length=i * 11+j by show (i+1) * 11+j - 11=_;omega];exact flat_atI l i j x u h hu
theorem rdI_of {w:World} {B n c:Nat} {A:Option Addr} {is:List Ins} (h:w.ownsRow B 46 11 (.slice A n c) n (is.flatMap cellsI)) (hn:is.length=n) (hok:∀ x∈is,okN x.a):RdI w A n (fun i=>is[i]?.getD (insOp 0 0)):=by
 intro i hi;have hx:is[i]?=some is[i]:=List.getElem?_eq_getElem (by omega);show okN (is[i]?.getD (insOp 0 0)).a∧∃ ad,A=some ad∧LieL w (ad.add (i * 11)) (cellsI (is[i]?.getD (insOp 0 0)));rw[hx];refine⟨hok _ (List.getElem_mem _),?_⟩
 rcases h.2 with ⟨_,r⟩ | ⟨g,cap,cur,r,_⟩
 ·omega
 ·injection r with r1
  subst r1;refine⟨_,rfl,fun j u hu=>?_⟩;have:=h.cells (g:=g) rfl (i * 11+j) u (flat_atI is i j _ u hx hu)
  have e:((⟨g,0,none⟩:Addr).add (i * 11)).add j=(⟨g,0,none⟩:Addr).add (i * 11+j):=by
   by_cases h1:i * 11=0
   ·rw[h1,Nat.zero_add];simp[Addr.add]
   ·by_cases h2:j=0
    ·subst h2;simp[Addr.add]
    ·simp[Addr.add,h1,h2]
  rw[e];exact this
def CompP (w:World) (e:Ending) (w':World):Prop:=∃ (A:Option Addr) (c:Nat) (X:Option Addr) (c2:Nat),e= .returned (.agg #[.slice A 3 c,.slice none 0 0])∧Below w.heap.size w w'∧RdI w' A 3 (fun i=>[insIf 2 0 1 ⟨#[]⟩ ⟨#[]⟩ X c2,insOp 16 0,insOp 16 0][i]?.getD (insOp 0 0))
theorem addcmds_X {w0 w:World} {mb:Nat} {is:List Ins} (A:Option Addr) (c:Nat) (hr:RowC (LtX w0.heap.size) w0 A [cmX]) (h:MkI w0 mb w is) (hn:is.length≤900):
  Calls Tryz.prog 36 #[.pointer (some ⟨mb,0,none⟩),.slice A 1 c,.int .i64 (-1)] w fun e w'=>e= .returned (.tuple #[])∧Hid (MkI w0 mb w' (is++[insOp 16 0])∧Keep mb w w'):=by
 obtain⟨ad,lk,rfl,hl⟩:=cmX_at hr;exact addcmds_one (Q:=fun w2=>MkI w0 mb w2 (is++[insOp 16 0])) ad c _ _ _ _ _ _ _ _ _ _ _ _ _ _ _ _ _ _ hl h fun w' hh=>addcmd_X _ _ _ _ _ _ _ _ _ _ _ _ _ _ _ _ _ hh hn
theorem addcmd_I {w0 w:World} {mb:Nat} (lp lx lb le lu:Option Addr) (cp cx cb ce cu:Nat) (hr:RowC (LtX w0.heap.size) w0 lb [cmX]) (h:MkI w0 mb w []):
  Calls Tryz.prog 54 #[.pointer (some ⟨mb,0,none⟩),.agg (v13 4 0 1 lp lx lb le lu cp 0 cx 1 cb ce cu ⟨#[]⟩ ⟨#[]⟩ 0),.int .i64 (-1)] w fun e w'=>e= .returned (.tuple #[])∧Hid (∃ X c,MkI w0 mb w' [insIf 2 0 1 ⟨#[]⟩ ⟨#[]⟩ X c,insOp 16 0]∧Keep mb w w'):=by
 have KF:Hid (∀ w',MkI w0 mb w' []→Calls Tryz.prog 83 #[.pointer (some ⟨mb,0,none⟩),.agg (v13 4 0 1 lp lx lb le lu cp 0 cx 1 cb ce cu ⟨#[]⟩ ⟨#[]⟩ 0),.int .i64 (-1)] w' fun e w2=>e= .returned (.tuple #[])∧Hid (∃ X c,MkI w0 mb w2 [insIf 2 0 1 ⟨#[]⟩ ⟨#[]⟩ X c,insOp 16 0]∧Keep mb w' w2)):=Lib.hid fun w' hh=>addif_I 0 1 lp lx lb le lu cp cx 1 cb ce cu ⟨#[]⟩ ⟨#[]⟩ 0 hh fun w2 X c h2=>addcmds_X lb cb hr h2 (by show 1≤900;omega)
 have HB:Hid (∀ o,Below w.heap.size w (w.alloc o)):=Lib.hid (one_boxX w);have H0:=Lib.hid h;clear h hr;go_enter Tryz.func54,Tryz.ntmps54;go_wp2_with (go_at_call 83;((with_reducible refine(KF.out _ (H0.out.next (HB.out _))).mono ?_));rintro _ w1 ⟨rfl,h1⟩)
 have HZ:Hid (∃ X c,MkI w0 mb w1 [insIf 2 0 1 ⟨#[]⟩ ⟨#[]⟩ X c,insOp 16 0]∧Keep mb w w1):=Lib.hid (by
  obtain⟨X,c,q1,q2⟩:=h1.out;exact⟨X,c,q1,(Keep.of_below (HB.out _)).trans q2⟩)
 clear h1
 first | go_end0 | (refine bodyPost_ret (results_none (by rfl) _ _ _) rfl ?_)
 exact⟨rfl,HZ⟩
theorem addcmds_I {w0 w:World} {mb:Nat} (A:Option Addr) (c:Nat) (hr:RowC (LtX w0.heap.size) w0 A [cmI]) (h:MkI w0 mb w []):
  Calls Tryz.prog 36 #[.pointer (some ⟨mb,0,none⟩),.slice A 1 c,.int .i64 (-1)] w fun e w'=>e= .returned (.tuple #[])∧Hid ((∃ X c,MkI w0 mb w' [insIf 2 0 1 ⟨#[]⟩ ⟨#[]⟩ X c,insOp 16 0])∧Keep mb w w'):=by
 obtain⟨ad,lk,rfl,hl,hb⟩:=cmI_at hr;refine addcmds_one (Q:=fun w2=>∃ X c,MkI w0 mb w2 [insIf 2 0 1 ⟨#[]⟩ ⟨#[]⟩ X c,insOp 16 0]) ad c _ _ _ _ _ _ _ _ _ _ _ _ _ _ _ _ _ _ hl h fun w' hh=>(addcmd_I _ _ _ _ _ _ _ _ _ _ hb hh).mono fun e w2 ⟨h1,h2⟩=>⟨h1,Lib.hid ?_⟩
 obtain⟨X,c,h3,h4⟩:=h2.out;exact⟨⟨X,c,h3⟩,h4⟩
theorem gr_setI (b o:Nat) (w:World) (u:Value):w.grownBy (w.setCell ⟨b,o,none⟩ u) (some b):=⟨rfl,rfl,rfl,by simp[World.setCell],fun k _ hn=>heap_setCell_other w _ k u (fun e=>hn (by rw[e]))⟩
theorem compile_I (A:Option Addr) (c:Nat) (w:World) (hr:RowC (LtX w.heap.size) w A [cmI]):Calls Tryz.prog 17 #[.slice A 1 c] w (CompP w):=by
 obtain⟨ad,lk,hA,hl,_⟩:=cmI_at hr;have HL:=Lib.hid hl;have hmm:=@run_makeMap Tryz.prog;obtain⟨W,hW⟩:∃ W,W=((w.alloc (.cells #[.slice none 0 0,.slice none 0 0] 28)).alloc (.map #[] 0)).alloc (.cells #[.slice none 0 0,.slice none 0 0,.map (some (w.heap.size+1)),.slice none 0 0] 100):=⟨_,rfl⟩;have HW:=Lib.hid hW;have HB:Hid (Below w.heap.size w W):=Lib.hid (by rw[hW];exact(((Below.refl _ _).alloc (Nat.le_refl _) _).alloc (by simp) _).alloc (by simp;omega) _)
 have HM0:Hid (MkI w (w.heap.size+1+1) W []):=Lib.hid ⟨HB.out,by omega,none,0,.map (some (w.heap.size+1)),by
  rw[hW];have:=heap_alloc_new ((w.alloc (.cells #[.slice none 0 0,.slice none 0 0] 28)).alloc (.map #[] 0)) (.cells #[.slice none 0 0,.slice none 0 0,.map (some (w.heap.size+1)),.slice none 0 0] 100);simpa using this,World.ownsRow_nil _ _ _ _⟩
 have HR0:Hid (W.heap[w.heap.size]?=some (.cells #[.slice none 0 0,.slice none 0 0] 28)):=Lib.hid (by
  rw[hW,heap_alloc_old _ _ (by simp;omega),heap_alloc_old _ _ (by simp)];exact heap_alloc_new w _)
 have KA:Hid (∀ w',MkI w (w.heap.size+1+1) w' []→Calls Tryz.prog 36 #[.pointer (some ⟨w.heap.size+1+1,0,none⟩),.slice A 1 c,.int .i64 (-1)] w' fun e w2=>e= .returned (.tuple #[])∧Hid ((∃ X c,MkI w (w.heap.size+1+1) w2 [insIf 2 0 1 ⟨#[]⟩ ⟨#[]⟩ X c,insOp 16 0])∧Keep (w.heap.size+1+1) w' w2)):=Lib.hid fun w' hh=>addcmds_I A c hr hh
 have KX:Hid (∀ w' X c,MkI w (w.heap.size+1+1) w' [insIf 2 0 1 ⟨#[]⟩ ⟨#[]⟩ X c,insOp 16 0]→Calls Tryz.prog 37 #[.pointer (some ⟨w.heap.size+1+1,0,none⟩),.agg #[.int .i64 16,.int .i64 0,.string ⟨#[]⟩,.int .i64 0,.slice none 0 0,.int .i64 0,.int .i64 0,.string ⟨#[]⟩,.string ⟨#[]⟩,.slice none 0 0,.slice none 0 0]] w' fun e w2=>e= .returned (.int .i64 2)∧Hid (MkI w (w.heap.size+1+1) w2 [insIf 2 0 1 ⟨#[]⟩ ⟨#[]⟩ X c,insOp 16 0,insOp 16 0]∧Keep (w.heap.size+1+1) w' w2)):=Lib.hid fun w' X c hh=>add_any (insOp 16 0) hh (by show 2≤1000;omega)
 subst hA;clear hr hl hW
 suffices hs:Calls Tryz.prog 17 #[.slice (some ad) 1 c] w fun e w'=>Hid (CompP w e w') from hs.mono fun e w' h=>h.out
 go_enter Tryz.func17,Tryz.ntmps17;go_wp2_with fail;rw[←HW.out];refine(KA.out _ HM0.out).mono ?_;rintro _ w1 ⟨rfl,h1⟩;obtain⟨X,c2,HM1⟩:=h1.out.1;have HK1:=Lib.hid h1.out.2;have HM1:=Lib.hid HM1;clear h1;go_wp2_with fail;refine(KX.out _ X c2 HM1.out).mono ?_;rintro _ w2 ⟨rfl,h2⟩;have HM2:=Lib.hid h2.out.1;have HK2:=Lib.hid (HK1.out.trans h2.out.2);clear h2 hmm;have HS2:Hid (MkI w (w.heap.size+1+1) w2 [insIf 2 0 1 ⟨#[]⟩ ⟨#[]⟩ X c2,insOp 16 0,insOp 16 0]∧w2.heap[w.heap.size]?=some (.cells #[.slice none 0 0,.slice none 0 0] 28)):=Lib.hid ⟨HM2.out,HK2.out _ _ _ HR0.out (by omega) (by decide)⟩;go_wp2
 go_loopw [19] (fun i wr=>∃ j:Nat,j≤1∧i= .int .i64 j∧Hid (MkI w (w.heap.size+1+1) wr [insIf 2 0 1 ⟨#[]⟩ ⟨#[]⟩ X c2,insOp 16 0,insOp 16 0]∧wr.heap[w.heap.size]?=some (.cells #[.slice none 0 0,.slice none 0 0] 28))) (fun i _=>1 - (intOf i).toNat)
 case atStart=>exact⟨0,by omega,rfl,HS2⟩
 case round=>
  obtain⟨j,hj,rfl,HI⟩:=hrel;obtain⟨V,hV⟩:∃ V,V=wr:=⟨_,rfl⟩;subst hV;by_cases a:j=0
  ·subst a
   obtain⟨q0,q1,q2,q3,q4,q5,q6,q7,q8,q9,q10,q11,q12⟩:=(HL.out.below HI.out.1.low).at13;have hbt:ad.block<V.heap.size:=World.block_lt_of_cell? V _ q0;have HX:Hid (∀ o,MkI w (w.heap.size+1+1) (V.alloc o) [insIf 2 0 1 ⟨#[]⟩ ⟨#[]⟩ X c2,insOp 16 0,insOp 16 0]∧(V.alloc o).heap[w.heap.size]?=some (.cells #[.slice none 0 0,.slice none 0 0] 28)):=Lib.hid fun o=>⟨HI.out.1.next (one_boxX V o),((one_boxX V o).block _ (Array.getElem?_eq_some_iff.mp HI.out.2).1).trans HI.out.2⟩
   go_wp2
   go_roundw
   case rel=>exact⟨1,by omega,by go_num,Lib.hid (HX.out _)⟩
   case measure=>simp[intOf]
  ·obtain rfl:j=1:=by omega
   obtain⟨A3,c3,mp,hx,ho⟩:=HI.out.1.ex;have e1:=row_atO hx;have r0:=(e1 0).trans rfl;have r1:=(e1 1).trans rfl;have r3:=(e1 3).trans rfl;have g2:=row_atO HI.out.2;have s0:=(g2 0).trans rfl;have s1:=(g2 1).trans rfl;have f2:=free_atO HI.out.2;have f20:=f2 0;have f21:=f2 1
   have HZ:Hid (∀ u v,RdI ((V.setCell ⟨w.heap.size,0,none⟩ u).setCell ⟨w.heap.size,1,none⟩ v) A3 3 (fun i=>[insIf 2 0 1 ⟨#[]⟩ ⟨#[]⟩ X c2,insOp 16 0,insOp 16 0][i]?.getD (insOp 0 0))):=Lib.hid fun u v=>by
    have hne:(Value.slice A3 [insIf 2 0 1 ⟨#[]⟩ ⟨#[]⟩ X c2,insOp 16 0,insOp 16 0].length c3).ownBlock≠some w.heap.size:=fun e=>by
     obtain⟨Y,q⟩:=own_typO ho e;rw[HI.out.2] at q;simp at q
    have h1:=ho.kept (gr_setI w.heap.size 0 V u) (.inr hne);have h2:=h1.kept (gr_setI w.heap.size 1 _ v) (.inr hne);refine rdI_of (is:=[insIf 2 0 1 ⟨#[]⟩ ⟨#[]⟩ X c2,insOp 16 0,insOp 16 0]) h2 rfl fun x hx=>?_
    simp only[List.mem_cons,List.not_mem_nil,or_false] at hx
    rcases hx with rfl | rfl | rfl <;> exact⟨by simp,by simp⟩
   clear e1 g2 f2 ho hx;go_wp2;clear r3
   go_loopw [47] (fun i wr2=>i= .int .i64 0∧Hid (wr2=V)) (fun i _=>0)
   case atStart=>exact⟨rfl,Lib.hid rfl⟩
   case round=>
    obtain⟨rfl,HV⟩:=hrel;obtain rfl:=HV.out;clear HV;go_wp2;exact bodyPost_ret (v:= .agg #[.slice A3 3 c3,.slice none 0 0]) (by simp[results,Tryz.results17,go_sem,s0,s1]) rfl (Lib.hid ⟨A3,c3,X,c2,rfl,((HI.out.1.low.setCell (Nat.le_refl _) _).setCell (Nat.le_refl _) _),HZ.out _ _⟩)
theorem rdI_set {w:World} {b n c d:Nat} {A X Y:Option Addr} {x y:Nat} {T:TypeId} {G:Nat→Ins} (h:RdI w A n G) (hb:w.heap[b]?=some (.cells #[.slice X x c,.slice Y y d] T)) (u v:Value):RdI ((w.setCell ⟨b,0,none⟩ u).setCell ⟨b,1,none⟩ v) A n G:=by
 intro i hi;obtain⟨h0,ad,e,hl⟩:=h i hi;refine⟨h0,ad,e,hl.keep fun p hp=>?_⟩
 have hne:(ad.add (i * 11)).block≠b:=fun e=>by
  have h1:=hl 1 _ rfl;have e1:(ad.add (i * 11)).add 1=⟨b,(ad.add (i * 11)).off+1,none⟩:=by rw[←e];unfold Addr.add;simp
  rw[e1,row_atO hb] at h1
  rcases Nat.lt_or_ge ((ad.add (i * 11)).off+1) 2 with hlt | hge
  ·rw[show (ad.add (i * 11)).off+1=1 by omega] at h1
   simp at h1
  ·rw[Array.getElem?_eq_none (by simpa using hge)] at h1
   cases h1
 rw[World.cell?_setCell_other _ _ _ _ (fun e=>hne (by rw[←hp,←e])),World.cell?_setCell_other _ _ _ _ (fun e=>hne (by rw[←hp,←e]))]
theorem compileT_I (A:Option Addr) (c:Nat) (w:World) (hr:RowC (LtX w.heap.size) w A [cmI]):Calls Tryz.prog 8 #[.slice A 1 c] w fun e w'=>∃ (A3:Option Addr) (c3:Nat) (X:Option Addr) (c2:Nat),e= .returned (.tuple #[.agg #[.slice A3 3 c3,.slice none 0 0],.int .i64 0])∧Below w.heap.size w w'∧RdI w' A3 3 (fun i=>[insIf 2 0 1 ⟨#[]⟩ ⟨#[]⟩ X c2,insOp 16 0,insOp 16 0][i]?.getD (insOp 0 0)):=by
 obtain⟨W,hW⟩:∃ W,W=w.alloc (.cells #[.slice none 0 0,.slice none 0 0] 28):=⟨_,rfl⟩;have HW:=Lib.hid hW;have HB:Hid (Below w.heap.size w W):=Lib.hid (by rw[hW];exact one_boxX w _);have HR0:Hid (W.heap[w.heap.size]?=some (.cells #[.slice none 0 0,.slice none 0 0] 28)):=Lib.hid (by rw[hW];exact heap_alloc_new w _);have KC:Hid (∀ w',Below w.heap.size w w'→Calls Tryz.prog 16 #[.slice A 1 c,.int .i64 8] w' fun e w2=>e= .returned (.tuple #[.int .i64 0,.int .i64 0])∧Below w'.heap.size w' w2):=Lib.hid fun w' hw=>check_I A c w' (hr.next hw)
 have KM:Hid (∀ w',Below w.heap.size w w'→Calls Tryz.prog 17 #[.slice A 1 c] w' (CompP w')):=Lib.hid fun w' hw=>compile_I A c w' (hr.next hw)
 unfold CompP at KM
 suffices hs:Calls Tryz.prog 8 #[.slice A 1 c] w fun e w'=>Hid (∃ (A3:Option Addr) (c3:Nat) (X:Option Addr) (c2:Nat),e= .returned (.tuple #[.agg #[.slice A3 3 c3,.slice none 0 0],.int .i64 0])∧Below w.heap.size w w'∧RdI w' A3 3 (fun i=>[insIf 2 0 1 ⟨#[]⟩ ⟨#[]⟩ X c2,insOp 16 0,insOp 16 0][i]?.getD (insOp 0 0))) from hs.mono fun e w' h=>h.out
 clear hr hW;go_enter Tryz.func8,Tryz.ntmps8;go_wp2_with fail;rw[←HW.out];refine(KC.out _ HB.out).mono ?_;rintro _ w1 ⟨rfl,hb1⟩;have HB1:=Lib.hid (HB.out.trans (hb1.mono HB.out.size));have HR1:Hid (w1.heap[w.heap.size]?=some (.cells #[.slice none 0 0,.slice none 0 0] 28)):=Lib.hid ((hb1.block _ (Array.getElem?_eq_some_iff.mp HR0.out).1).trans HR0.out);clear hb1;go_wp2_with fail;refine(KM.out _ HB1.out).mono ?_;rintro _ w2 ⟨A3,c3,X,c2,rfl,hb2,hri⟩;have HB2:=Lib.hid (HB1.out.trans (hb2.mono HB1.out.size));have hr2:=(hb2.block _ (Array.getElem?_eq_some_iff.mp HR1.out).1).trans HR1.out;have HRI:=Lib.hid hri;have HR2:=Lib.hid hr2;have g2:=row_atO hr2;have s0:=(g2 0).trans rfl;have s1:=(g2 1).trans rfl;have f2:=free_atO hr2;have f20:=f2 0;have f21:=f2 1;clear g2 f2 hr2 hri hb2;go_wp2;exact bodyPost_ret (v:= .tuple #[.agg #[.slice A3 3 c3,.slice none 0 0],.int .i64 0]) (by simp[results,Tryz.results8,go_sem,s0,s1]) rfl (Lib.hid ⟨A3,c3,X,c2,rfl,(HB2.out.setCell (Nat.le_refl _) _).setCell (Nat.le_refl _) _,rdI_set HRI.out HR2.out _ _⟩)
theorem line0:lineB 0 5 2=⟨#[48,32,117,110,108,101,115,115,32,50]⟩:=by kernel_rfl
theorem line1:lineB 1 16 0=⟨#[49,32,101,120,105,116,32,48]⟩:=by kernel_rfl
theorem awakeC_any (w:World) (hG:Given w) (hN:NamesAt w):Calls Tryz.prog 6 #[] w fun e w'=>e= .returned (.bool true)∧Below w.heap.size w w':=by
 have K1:Hid (Calls Tryz.prog 11 #[.string ⟨#[105,102,32,40,49,41,32,123,101,120,105,116,125]⟩] w (ParP w ([cmI],0,0))):=Lib.hid (by
  have:=dparse_any SI (by decide) w;rw[parI] at this;exact this)
 unfold ParP at K1;have K2:Hid (∀ w' A c,RowC (LtX w'.heap.size) w' A [cmI]→Calls Tryz.prog 8 #[.slice A 1 c] w' fun e w2=>∃ (A3:Option Addr) (c3:Nat) (X:Option Addr) (c2:Nat),e= .returned (.tuple #[.agg #[.slice A3 3 c3,.slice none 0 0],.int .i64 0])∧Below w'.heap.size w' w2∧RdI w2 A3 3 (fun i=>[insIf 2 0 1 ⟨#[]⟩ ⟨#[]⟩ X c2,insOp 16 0,insOp 16 0][i]?.getD (insOp 0 0))):=Lib.hid fun w' A c h=>compileT_I A c w' h
 have HG:=Lib.hid hG;have HN:=Lib.hid hN;clear hG hN;go_enter Tryz.func6,Tryz.ntmps6;go_wp2_with fail;refine K1.out.mono ?_;rintro _ w1 ⟨A1,c1,rfl,hb1,hr1⟩;have HB1:=Lib.hid hb1;have HR1:=Lib.hid hr1;clear hb1 hr1;go_wp2_with fail;refine(K2.out _ _ _ (by first | exact HR1.out | (rcases HR1.out with h | h <;> exact h))).mono ?_;rintro _ w2 ⟨A3,c3,X,c2,rfl,hb2,hri⟩;have HB2:=Lib.hid (HB1.out.trans (hb2.mono HB1.out.size));have HB3:Hid (Below w2.heap.size w2 (w2.alloc (.cells #[.slice A3 3 c3,.slice none 0 0] 28))):=Lib.hid (one_boxX _ _);have HB4:=Lib.hid (HB2.out.trans (HB3.out.mono HB2.out.size));have KT:=Lib.hid (text_all A3 none 3 c3 0 0 _ (by omega) _ (hri.below HB3.out) (HG.out.below HB4.out) (HN.out.below HB4.out));unfold TextP at KT;clear hb2 hri;go_wp2_with fail;refine KT.out.mono ?_;rintro _ w4 ⟨b,rfl,hb4,hrow⟩;have HB5:=Lib.hid (HB4.out.trans (hb4.mono HB4.out.size));have q0:w4.cell? ⟨b,0,none⟩=some (.string ⟨#[48,32,117,110,108,101,115,115,32,50]⟩):=by rw[←line0];exact hrow.cell (i:=0) (by omega)
 have q1:w4.cell? ⟨b,1,none⟩=some (.string ⟨#[49,32,101,120,105,116,32,48]⟩):=by rw[←line1];exact hrow.cell (i:=1) (by omega)
 clear hb4 hrow;go_wp2;go_ret;exact⟨rfl,HB5.out⟩
theorem walk_ctexts (A:Option Addr) (n c:Nat) (G:Nat→Ins) (w:World) (hr:RdI w A n G) (hG:Given w) (hN:NamesAt w):Calls Tryz.prog 5 #[.slice A n c] w fun e w'=>e= .returned (.bool true)∧Below w.heap.size w w':=by
 have KA:Hid (Calls Tryz.prog 6 #[] w fun e w'=>e= .returned (.bool true)∧Below w.heap.size w w'):=Lib.hid (awakeC_any w hG hN);have HR:=Lib.hid hr;have HG:=Lib.hid hG;have HN:=Lib.hid hN;clear hr hG hN;by_cases hn:40<n
 ·go_enter Tryz.func5,Tryz.ntmps5
  go_wp2_with (go_at_call 6;((with_reducible refine(KA.out).mono ?_));rintro _ w1 ⟨rfl,hb1⟩;have HB1:=Lib.hid hb1;clear hb1);go_ret;exact⟨rfl,HB1.out⟩
 ·go_enter Tryz.func5,Tryz.ntmps5
  go_wp2_with fail;refine KA.out.mono ?_;rintro _ w1 ⟨rfl,hb1⟩;have HB1:=Lib.hid hb1;have KT:=Lib.hid (text_all A none n c 0 0 G (by omega) w1 (HR.out.below hb1) (HG.out.below hb1) (HN.out.below hb1));unfold TextP at KT;clear hb1;go_wp2_with fail;refine KT.out.mono ?_;rintro _ w2 ⟨b,rfl,hb2,hrow⟩;have HB2:=Lib.hid (HB1.out.trans (hb2.mono HB1.out.size));have HRW:=Lib.hid hrow;clear hb2 hrow;go_wp2
  go_loopw [21] (fun i wr=>∃ k:Nat,k≤n∧i= .int .i64 k∧Hid (Below w2.heap.size w2 wr)) (fun i _=>n - (intOf i).toNat)
  case atStart=>exact⟨0,by omega,rfl,Lib.hid (Below.refl _ _)⟩
  case round=>
   obtain⟨k,hk,rfl,HI⟩:=hrel;by_cases a:k<n
   ·have hwr:=HB2.out.trans (HI.out.mono HB2.out.size)
    obtain⟨hokb,ad,rfl,hl⟩:=(HR.out.below hwr) k a;have hsl:=(HRW.out.below HI.out HRW.out.lt).cell a;have HLF:Hid (LinF G k=lineB k (G k).op (G k).a):=Lib.hid rfl;rw[HLF.out] at hsl;clear HLF;generalize G k=x at hokb hl hsl;obtain⟨op,z,nm,nn,p,pn,pc,ck,cn,cs,co,x,xn,xc,l,ln,lc⟩:=x;have hl:LieL wr (ad.add (k * 11)) [.int .i64 op,.int .i64 z,.string nm,.int .i64 nn,.slice p pn pc,.int .i64 ck,.int .i64 cn,.string cs,.string co,.slice x xn xc,.slice l ln lc]:=hl;obtain⟨c0,c1,c2,c3,c4,c5,c6,c7,c8,c9,c10⟩:=hl.at11;have hbt:(ad.add (k * 11)).block<wr.heap.size:=World.block_lt_of_cell? wr _ c0;obtain⟨S,hS⟩:∃ S,S=lineB k op z:=⟨_,rfl⟩;have hsl:wr.cell? ⟨b,k,none⟩=some (.string S):=by rw[hS];exact hsl
    obtain⟨W,hW⟩:∃ W,W=wr.alloc (.cells #[.int .i64 op,.int .i64 z,.string nm,.int .i64 nn,.slice p pn pc,.int .i64 ck,.int .i64 cn,.string cs,.string co,.slice x xn xc,.slice l ln lc] 46):=⟨_,rfl⟩;have hbW:Below wr.heap.size wr W:=by rw[hW];exact one_boxX _ _
    have HIW:Hid (Below w2.heap.size w2 W):=Lib.hid (HI.out.trans (hbW.mono HI.out.size));have HSL:Hid (W.cell? ⟨b,k,none⟩=some (.string S)):=Lib.hid ((hbW.cell (World.block_lt_of_cell? wr _ hsl)).trans hsl)
    have HBX:Hid (LieL W ⟨wr.heap.size,0,none⟩ [.int .i64 op,.int .i64 z,.string nm,.int .i64 nn,.slice p pn pc,.int .i64 ck,.int .i64 cn,.string cs,.string co,.slice x xn xc,.slice l ln lc]):=Lib.hid (by
     rw[hW];exact boxL_lie (BoxL.new wr 46 [.int .i64 op,.int .i64 z,.string nm,.int .i64 nn,.slice p pn pc,.int .i64 ck,.int .i64 cn,.string cs,.string co,.slice x xn xc,.slice l ln lc]))
    have KL:Hid (∀ w',Calls Tryz.prog 14 #[.int .i64 k,.agg #[.int .i64 op,.int .i64 z,.string nm,.int .i64 nn,.slice p pn pc,.int .i64 ck,.int .i64 cn,.string cs,.string co,.slice x xn xc,.slice l ln lc]] w' fun e w2=>e= .returned (.string S)∧Below w'.heap.size w' w2):=Lib.hid fun w'=>by rw[hS];exact rline_any k op z _ _ _ _ _ _ _ _ _ ⟨by omega,by omega⟩ hokb w'
    have HWq:=Lib.hid hW;clear hl hsl hW hbW hwr hokb hS;go_wp2;rw[←HWq.out];obtain⟨p0,p1,p2,p3,p4,p5,p6,p7,p8,p9,p10⟩:=HBX.out.at11;have r0:=bw_cell p0;have r1:=bw_cell p1;have r2:=bw_cell p2;have r3:=bw_cell p3;have r4:=bw_cell p4;have r5:=bw_cell p5;have r6:=bw_cell p6;have r7:=bw_cell p7;have r8:=bw_cell p8;have r9:=bw_cell p9;have r10:=bw_cell p10;have rs:=bw_cell HSL.out;have hne:=bw_some W;clear p0 p1 p2 p3 p4 p5 p6 p7 p8 p9 p10 c0 c1 c2 c3 c4 c5 c6 c7 c8 c9 c10;refine wp_region_below (by kernel_rfl) (by kernel_rfl) ?_
    repeat (go_big_quiet_step (first | (go_at_call 14;with_reducible exact bw_calls (KL.out _)) | fail))
    refine wpQuiet_nil ?_;intro w5 hw5;obtain⟨m5,rfl⟩:=hw5;have B5:=Lib.hid (HIW.out.trans (m5.2.mono HIW.out.size));clear r0 r1 r2 r3 r4 r5 r6 r7 r8 r9 r10 rs hne;go_wp2
    go_roundw
    case rel=>exact⟨k+1,by omega,by go_num,B5⟩
    case measure=>simp[intOf];omega
   ·go_wp2
    go_ret;exact⟨rfl,HB2.out.trans (HI.out.mono HB2.out.size)⟩
end Go.Proofs.YtfgcdppebeojbaaGreatDoor
