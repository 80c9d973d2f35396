import Derived.RegionTactic
import Derived.ChangeAlike
import Derived.Test.YtmmmleoeokaaeaaDoorTkQ
namespace Go.Proofs.YtmmmleoeokaaeaaDoor
open Go Go.RowKit
set_option maxRecDepth 100000
set_option maxHeartbeats 4000000
theorem noPl_len {a b:List Tok} (h:noPl a=noPl b):a.length=b.length:=by
 have:=congrArg List.length h;simpa[noPl] using this
theorem noPl_at {a b:List Tok} (h:noPl a=noPl b) {k:Nat} {x y:Tok} (hx:a[k]?=some x) (hy:b[k]?=some y):withPl x 0=withPl y 0:=by
 have h1:(noPl a)[k]?=some (withPl x 0):=by unfold noPl;rw[List.getElem?_map,hx];rfl
 have h2:(noPl b)[k]?=some (withPl y 0):=by unfold noPl;rw[List.getElem?_map,hy];rfl
 rw[h,h2] at h1;injection h1 with h1;exact h1.symm
theorem cell_al {w:World} {p:Addr} {v:Value} (h:w.cell? p=some v) (o:Obj):(w.alloc o).cell? p=some v:=by
 have hb:Below w.heap.size w (w.alloc o):=(Below.refl _ _).alloc (Nat.le_refl _) o;exact(hb.cell (World.block_lt_of_cell? w _ h)).trans h
theorem cell_al2 {w:World} {p:Addr} {v:Value} (h:w.cell? p=some v) (o o2:Obj):((w.alloc o).alloc o2).cell? p=some v:=cell_al (cell_al h o) o2
theorem lsame_yes (A A':Option Addr) (n c c':Nat) (xs ys:List Tok) (w:World) (h:RdT w.heap.size w A n xs) (h':RdT w.heap.size w A' n ys) (hn:n≤1000000) (he:noPl xs=noPl ys) (hp:∀ t∈xs,t.parts.length≤1000000):
  Calls Tryd.prog 9 #[.slice A n c,.slice A' n c'] w fun e w'=>e= .returned (.bool true)∧Below w.heap.size w w':=by
 have HR:=Lib.hid h;have HR':=Lib.hid h';have HN:=Lib.hid h.1;have HN':=Lib.hid h'.1;have HE:=Lib.hid he;have HP:=Lib.hid hp;clear h h' he hp;go_enter Tryd.func9,Tryd.ntmps9;go_wp2
 go_loopw [15] (fun i wr=>∃ k:Nat,k≤n∧i= .int .i64 k∧Below w.heap.size w wr) (fun i _=>n - (intOf i).toNat)
 case atStart=>exact⟨0,by omega,rfl,Below.refl _ _⟩
 case round=>
  obtain⟨k,hk,rfl,hb⟩:=hrel;have HB:=Lib.hid hb;clear hb;by_cases a:k<n
  ·obtain⟨x,hx⟩:∃ t,xs[k]?=some t:=⟨_,List.getElem?_eq_getElem (by have:=HN.out;omega)⟩
   obtain⟨y,hy⟩:∃ t,ys[k]?=some t:=⟨_,List.getElem?_eq_getElem (by have:=HN'.out;omega)⟩;obtain⟨ad,A1,c1,rfl,h5,hrx⟩:=(HR.out.next HB.out).at_ hx
   obtain⟨ad',A2,c2,rfl,h5',hry⟩:=(HR'.out.next HB.out).at_ hy
   have hxy:=noPl_at HE.out hx hy
   have K:∀ w',Below wr.heap.size wr w'→Calls Tryd.prog 8 #[tokA (withPl x 0) A1 c1,tokA (withPl y 0) A2 c2] w' fun e w2=>e= .returned (.bool true)∧Below wr.heap.size wr w2:=fun w' hb'=>by
    have:=tsame_any (withPl x 0) (withPl y 0) A1 A2 c1 c2 w' (hrx.onto hb') (hry.onto hb') (HP.out x (List.mem_of_getElem? hx));rw[hxy,eqT_self] at this;rw[hxy];exact this.mono fun e w2 ⟨he,h2⟩=>⟨he,hb'.trans (h2.mono hb'.size)⟩
   have HK:Hid (∀ w',Below wr.heap.size wr w'→Calls Tryd.prog 8 #[.agg #[.int .i64 x.kind,.string ⟨x.word.toArray⟩,.int .i64 x.n,.slice A1 x.parts.length c1,.int .i64 0],.agg #[.int .i64 y.kind,.string ⟨y.word.toArray⟩,.int .i64 y.n,.slice A2 y.parts.length c2,.int .i64 0]] w' fun e w2=>e= .returned (.bool true)∧Below wr.heap.size wr w2):=Lib.hid K;obtain⟨x0,x1,x2,x3,x4⟩:=h5;obtain⟨y0,y1,y2,y3,y4⟩:=h5';clear K hx hy hxy hrx hry;generalize (⟨x.word.toArray⟩:ByteArray)=W1 at x1 HK;generalize (⟨y.word.toArray⟩:ByteArray)=W2 at y1 HK;generalize x.parts.length=m1 at x3 HK;generalize y.parts.length=m2 at y3 HK;have ax0:=cell_al x0;have ex0:=cell_al2 x0;have ax1:=cell_al x1;have ex1:=cell_al2 x1;have ax2:=cell_al x2;have ex2:=cell_al2 x2;have ax3:=cell_al x3;have ex3:=cell_al2 x3;have ax4:=cell_al x4;have ex4:=cell_al2 x4;have ay0:=cell_al y0;have ey0:=cell_al2 y0;have ay1:=cell_al y1;have ey1:=cell_al2 y1;have ay2:=cell_al y2;have ey2:=cell_al2 y2;have ay3:=cell_al y3;have ey3:=cell_al2 y3;have ay4:=cell_al y4;have ey4:=cell_al2 y4;go_wp2
   go_region
   all_goals
    clear x0 ax0 ex0 x1 ax1 ex1 x2 ax2 ex2 x3 ax3 ex3 x4 ax4 ex4 y0 ay0 ey0 y1 ay1 ey1 y2 ay2 ey2 y3 ay3 ey3 y4 ay4 ey4;go_wp2_with (go_at_call 8;((with_reducible refine(HK.out _ (((Below.refl _ _).alloc (Nat.le_refl _) _).alloc (by simp) _).drew).mono ?_));rintro e w2 ⟨rfl,hb2⟩;have HB2:=Lib.hid (HB.out.trans (hb2.mono HB.out.size));clear hb2)
    go_roundw
    case rel=>exact⟨k+1,by omega,by go_num,HB2.out⟩
    case measure=>simp[intOf];omega
  ·go_wp2
   go_ret;exact⟨rfl,HB.out⟩
end Go.Proofs.YtmmmleoeokaaeaaDoor
