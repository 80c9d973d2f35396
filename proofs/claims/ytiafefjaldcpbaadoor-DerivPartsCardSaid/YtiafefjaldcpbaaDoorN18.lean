import Derived.Test.YtiafefjaldcpbaaDoorN14
import Derived.Test.YtiafefjaldcpbaaDoorGoes
namespace Go.Proofs.YtiafefjaldcpbaaDoor
open Go Go.RowKit
set_option maxRecDepth 100000
set_option maxHeartbeats 16000000
section
theorem matB_lang (R:Re) (t:Bs):matB R t=true ↔ RightP R∧Lang R t:=by rw[matB_iff,way_all]
noncomputable def metB (x y:Re) (s:Bs) (j:Nat):Bool:=(List.range j).any fun i=>matB x (s.take i) && matB y (s.drop i)
theorem metB_succ (x y:Re) (s:Bs) (j:Nat):metB x y s (j+1)=(metB x y s j || (matB x (s.take j) && matB y (s.drop j))):=by
 unfold metB;rw[List.range_succ,List.any_append];simp
theorem parts_bool {x y both either:Re} (hx:RightP x) (hy:RightP y) (hb:RightP both) (he:RightP either) (h1:∀ w,Lang both w ↔ ∃ i,i≤w.length∧Lang x (w.take i)∧Lang y (w.drop i)) (h2:∀ w,Lang either w ↔ Lang x w∨Lang y w) (s:Bs):
  metB x y s (s.length+1)=matB both s∧(matB x s || matB y s)=matB either s:=by
 have beq:∀ {p q:Bool},(p=true ↔ q=true)→p=q:=fun {p q} h=>by cases p <;> cases q <;> simp_all
 constructor
 ·refine beq ?_
  rw[matB_lang,h1];unfold metB;rw[List.any_eq_true]
  constructor
  ·rintro⟨i,hi,h⟩
   rw[Bool.and_eq_true,matB_lang,matB_lang] at h;rw[List.mem_range] at hi;exact⟨hb,i,by omega,h.1.2,h.2.2⟩
  ·rintro⟨_,i,hi,h3,h4⟩
   exact⟨i,List.mem_range.2 (by omega),by rw[Bool.and_eq_true,matB_lang,matB_lang];exact⟨⟨hx,h3⟩,hy,h4⟩⟩
 ·refine beq ?_
  rw[Bool.or_eq_true,matB_lang,matB_lang,matB_lang,h2]
  constructor
  ·rintro(h | h)
   ·exact⟨he,.inl h.2⟩
   ·exact⟨he,.inr h.2⟩
  ·rintro⟨_,h | h⟩
   ·exact .inl ⟨hx,h⟩
   ·exact .inr ⟨hy,h⟩
theorem Box9.keep {w w':World} {c:Nat} {v0 v1 v2 v3 v4 v5 v6 v7 v8:Value} (h:Box9 w c v0 v1 v2 v3 v4 v5 v6 v7 v8) (hb:Below w.heap.size w w'):Box9 w' c v0 v1 v2 v3 v4 v5 v6 v7 v8:=h.grown (b:=c+1) (grown_below hb) (by omega)
theorem box_all (x:Re) (A:Option Addr) (w:World) (v0 v1 v2 v3 v4 v5 v6 v7 v8:Value) (hk:Kids (Lt w.heap.size) w A x):∀ W,Below (w.alloc (.cells #[v0,v1,v2,v3,v4,v5,v6,v7,v8] 29)).heap.size (w.alloc (.cells #[v0,v1,v2,v3,v4,v5,v6,v7,v8] 29)) W→Box9 W w.heap.size v0 v1 v2 v3 v4 v5 v6 v7 v8∧Kids (Lt W.heap.size) W A x:=fun _ hW=>
 ⟨(Box9.new w v0 v1 v2 v3 v4 v5 v6 v7 v8).keep hW,(hk.next (one_box w _)).next hW⟩
section
variable {a b s:ByteArray} {w:World}
theorem parts_a (h:60<a.size):Calls Tryd.prog 3 #[.string a,.string b,.string s] w fun e w'=>e= .returned (.bool true)∧Below w.heap.size w w':=by
 have KAW:=Lib.hid awake_any;have b1:decide ((60:Int)<(a.size:Int))=true:=by simp;omega
 go_enter Tryd.func3,Tryd.ntmps3
 go_wp2_with (first
  | (go_at_call 5;(with_reducible refine(KAW.out _).mono ?_);rintro _ w1 ⟨rfl,hb1⟩;have HB1:=Lib.hid hb1;clear hb1))
 go_ret;exact⟨rfl,HB1.out⟩
theorem parts_b (h1:a.size≤60) (h:60<b.size):Calls Tryd.prog 3 #[.string a,.string b,.string s] w fun e w'=>e= .returned (.bool true)∧Below w.heap.size w w':=by
 have KAW:=Lib.hid awake_any;have b1:decide ((60:Int)<(a.size:Int))=false:=by simp;omega
 have b2:decide ((60:Int)<(b.size:Int))=true:=by simp;omega
 go_enter Tryd.func3,Tryd.ntmps3
 go_wp2_with (first
  | (go_at_call 5;(with_reducible refine(KAW.out _).mono ?_);rintro _ w1 ⟨rfl,hb1⟩;have HB1:=Lib.hid hb1;clear hb1))
 go_ret;exact⟨rfl,HB1.out⟩
theorem parts_s (h1:a.size≤60) (h2:b.size≤60) (h:20<s.size):Calls Tryd.prog 3 #[.string a,.string b,.string s] w fun e w'=>e= .returned (.bool true)∧Below w.heap.size w w':=by
 have KAW:=Lib.hid awake_any;have b1:decide ((60:Int)<(a.size:Int))=false:=by simp;omega
 have b2:decide ((60:Int)<(b.size:Int))=false:=by simp;omega
 have b3:decide ((20:Int)<(s.size:Int))=true:=by simp;omega
 go_enter Tryd.func3,Tryd.ntmps3
 go_wp2_with (first
  | (go_at_call 5;(with_reducible refine(KAW.out _).mono ?_);rintro _ w1 ⟨rfl,hb1⟩;have HB1:=Lib.hid hb1;clear hb1))
 go_ret;exact⟨rfl,HB1.out⟩
theorem parts_na {q:Nat} {er:Int} (h1:a.size≤60) (h2:b.size≤60) (h3:s.size≤20) (ha:parseE a.data.toList=(none,q,er)) (her:¬ er=0):Calls Tryd.prog 3 #[.string a,.string b,.string s] w fun e w'=>e= .returned (.bool true)∧Below w.heap.size w w':=by
 have KAW:=Lib.hid awake_any;have b1:decide ((60:Int)<(a.size:Int))=false:=by simp;omega
 have b2:decide ((60:Int)<(b.size:Int))=false:=by simp;omega
 have b3:decide ((20:Int)<(s.size:Int))=false:=by simp;omega
 have KW:=Lib.hid (whole_not ha her);clear ha her;go_enter Tryd.func3,Tryd.ntmps3
 go_wp2_with (first
  | (go_at_call 5;(with_reducible refine(KAW.out _).mono ?_);rintro _ w1 ⟨rfl,hb1⟩;have HB1:=Lib.hid hb1;clear hb1)
  | (go_at_call 6;(with_reducible refine(KW.out _).mono ?_);rintro _ w2 ⟨rfl,hb2⟩;have HB2:=Lib.hid (bst HB1.out hb2);clear hb2))
 go_ret;exact⟨rfl,HB2.out⟩
theorem parts_nb {q:Nat} {er:Int} {xa:Re} (h1:a.size≤60) (h2:b.size≤60) (h3:s.size≤20) (ha:parseE a.data.toList=(some xa,0,0)) (hb:parseE b.data.toList=(none,q,er)) (her:¬ er=0):Calls Tryd.prog 3 #[.string a,.string b,.string s] w fun e w'=>e= .returned (.bool true)∧Below w.heap.size w w':=by
 have KAW:=Lib.hid awake_any;have b1:decide ((60:Int)<(a.size:Int))=false:=by simp;omega
 have b2:decide ((60:Int)<(b.size:Int))=false:=by simp;omega
 have b3:decide ((20:Int)<(s.size:Int))=false:=by simp;omega
 have KW:=Lib.hid (whole_yes ha);have KW2:=Lib.hid (whole_not hb her);clear ha hb her;go_enter Tryd.func3,Tryd.ntmps3
 go_wp2_with (first
  | (go_at_call 5;(with_reducible refine(KAW.out _).mono ?_);rintro _ w1 ⟨rfl,hb1⟩;have HB1:=Lib.hid hb1;clear hb1)
  | (go_at_call 6;(with_reducible refine(KW.out _).mono ?_);rintro _ w2 ⟨rfl,hb2⟩;have HB2:=Lib.hid (bst HB1.out hb2);clear hb2)
  | (go_at_call 6;(with_reducible refine(KW2.out _).mono ?_);rintro _ w3 ⟨rfl,hb3⟩;have HB3:=Lib.hid (bst HB2.out hb3);clear hb3))
 go_ret;exact⟨rfl,HB3.out⟩
end
end
theorem bbx {w w1:World} (h:Below w.heap.size w w1) (o:Obj):Below w.heap.size w (w1.alloc o):=h.alloc h.size o
structure RdQ (st:ByteArray) (r:Re) (v:Option Addr→Nat→Value):Prop where
 read:∀ W,Calls Tryd.prog 7 #[.string st] W fun e w'=>∃ A c,e= .returned (.tuple #[v A c,.int .i64 0,.int .i64 0])∧Hid (Kids (Lt w'.heap.size) w' A r)∧Hid (Below W.heap.size W w')
 right:∀ W A c,Kids (Lt W.heap.size) W A r→Calls Tryd.prog 8 #[v A c] W fun e w'=>e= .returned (.bool (rightB r))∧Hid (Below W.heap.size W w')
 mat:∀ W A c,Kids (Lt W.heap.size) W A r→∀ t:ByteArray,t.size≤100→RetV 9 #[v A c,.string t,.bool false,.bool false] (.bool (matB r t.data.toList)) W
theorem rdq_of {st:ByteArray} {r:Re} (h:parseE st.data.toList=(some r,0,0)):RdQ st r (fun A c=>valR r A c):=by
 have hs:sizeE r≤600:=by have:=(parse_made h).2.2;omega
 refine⟨fun W=>(parse_yes h W).mono fun e w' ⟨A,c,h1,h2,h3⟩=>⟨A,c,h1,Lib.hid (lt_fr h2),Lib.hid h3⟩,fun W A c hk=>(right_c r A c W hk hs W (Below.refl _ _)).mono fun e w' ⟨h1,h2⟩=>⟨h1,Lib.hid h2⟩,fun W A c hk t ht=>match_c r A c W hk hs t ht⟩
theorem parts_r3 {a b s:ByteArray} {w:World} {xa yb x y both either:Re} (h1:a.size≤60) (h2:b.size≤60) (h3:s.size≤20) (ha:parseE a.data.toList=(some xa,0,0)) (hb:parseE b.data.toList=(some yb,0,0)) (hx:parseE ((⟨#[40]⟩++a)++⟨#[41]⟩:ByteArray).data.toList=(some x,0,0)) (hy:parseE ((⟨#[40]⟩++b)++⟨#[41]⟩:ByteArray).data.toList=(some y,0,0)) (hz:parseE ((((⟨#[40]⟩++a)++⟨#[41,40]⟩)++b)++⟨#[41]⟩:ByteArray).data.toList=(some both,0,0)) (he:parseE ((((⟨#[40]⟩++a)++⟨#[41,124,40]⟩)++b)++⟨#[41]⟩:ByteArray).data.toList=(some either,0,0)) (hr:rightB both=false):
  Calls Tryd.prog 3 #[.string a,.string b,.string s] w fun e w'=>e= .returned (.bool true)∧Below w.heap.size w w':=by
 have KAW:=Lib.hid awake_any;have b1:decide ((60:Int)<(a.size:Int))=false:=by simp;omega
 have b2:decide ((60:Int)<(b.size:Int))=false:=by simp;omega
 have b3:decide ((20:Int)<(s.size:Int))=false:=by simp;omega
 have KW:=Lib.hid (whole_yes ha);have KW2:=Lib.hid (whole_yes hb);have Q1:=rdq_of hx;have Q2:=rdq_of hy;have Q3:=rdq_of hz;have Q4:=rdq_of he;obtain⟨k1,a1,b1,d1,e1,m1,l1,g1,n1,v1⟩:=val_re x;simp only[v1] at Q1;obtain⟨k2,a2,b2,d2,e2,m2,l2,g2,n2,v2⟩:=val_re y;simp only[v2] at Q2;obtain⟨k3,a3,b3,d3,e3,m3,l3,g3,n3,v3⟩:=val_re both;simp only[v3] at Q3;obtain⟨k4,a4,b4,d4,e4,m4,l4,g4,n4,v4⟩:=val_re either;simp only[v4] at Q4;have KP1:=Lib.hid Q1.read;have KR1:=Lib.hid Q1.right;have KM1:=Lib.hid Q1.mat;have KP2:=Lib.hid Q2.read;have KR2:=Lib.hid Q2.right;have KM2:=Lib.hid Q2.mat;have KP3:=Lib.hid Q3.read;have KR3:=Lib.hid Q3.right;have KM3:=Lib.hid Q3.mat;have KP4:=Lib.hid Q4.read;have KR4:=Lib.hid Q4.right;have KM4:=Lib.hid Q4.mat;rw[hr] at KR3;clear ha hb hx hy hz he Q1 Q2 Q3 Q4 v1 v2 v3 v4 hr;go_enter Tryd.func3,Tryd.ntmps3
 go_wp2_with (first
  | (go_at_call 5;(with_reducible refine(KAW.out _).mono ?_);rintro _ w1 ⟨rfl,hb1⟩;have HB1:=Lib.hid hb1;clear hb1)
  | (go_at_call 6;(with_reducible refine(KW.out _).mono ?_);rintro _ w2 ⟨rfl,hb2⟩;have HB2:=Lib.hid (bst HB1.out hb2);clear hb2)
  | (go_at_call 6;(with_reducible refine(KW2.out _).mono ?_);rintro _ w3 ⟨rfl,hb3⟩;have HB3:=Lib.hid (bst HB2.out hb3);clear hb3)
  | (go_at_call 7;(with_reducible refine(KP1.out _).mono ?_);rintro _ w4 ⟨A1,c1,rfl,HK1,hb⟩;have HX1:=Lib.hid (box_all x A1 w4 (.int .i64 k1) (.int .u64 a1) (.int .u64 b1) (.int .u64 d1) (.int .u64 e1) (.slice A1 m1 c1) (.int .i64 l1) (.int .i64 g1) (.int .i64 n1) HK1.out);have HB4:=Lib.hid (bbx (bst HB3.out hb.out) (.cells #[.int .i64 k1,.int .u64 a1,.int .u64 b1,.int .u64 d1,.int .u64 e1,.slice A1 m1 c1,.int .i64 l1,.int .i64 g1,.int .i64 n1] 29));clear HK1 hb)
  | (go_at_call 7;(with_reducible refine(KP2.out _).mono ?_);rintro _ w5 ⟨A2,c2,rfl,HK2,hb⟩;have HX2:=Lib.hid (box_all y A2 w5 (.int .i64 k2) (.int .u64 a2) (.int .u64 b2) (.int .u64 d2) (.int .u64 e2) (.slice A2 m2 c2) (.int .i64 l2) (.int .i64 g2) (.int .i64 n2) HK2.out);have HB5:=Lib.hid (bbx (bst HB4.out hb.out) (.cells #[.int .i64 k2,.int .u64 a2,.int .u64 b2,.int .u64 d2,.int .u64 e2,.slice A2 m2 c2,.int .i64 l2,.int .i64 g2,.int .i64 n2] 29));have L15:=Lib.hid (bbx hb.out (.cells #[.int .i64 k2,.int .u64 a2,.int .u64 b2,.int .u64 d2,.int .u64 e2,.slice A2 m2 c2,.int .i64 l2,.int .i64 g2,.int .i64 n2] 29));clear HK2 hb)
  | (go_at_call 7;(with_reducible refine(KP3.out _).mono ?_);rintro _ w6 ⟨A3,c3,rfl,HK3,hb⟩;have HX3:=Lib.hid (box_all both A3 w6 (.int .i64 k3) (.int .u64 a3) (.int .u64 b3) (.int .u64 d3) (.int .u64 e3) (.slice A3 m3 c3) (.int .i64 l3) (.int .i64 g3) (.int .i64 n3) HK3.out);have HB6:=Lib.hid (bbx (bst HB5.out hb.out) (.cells #[.int .i64 k3,.int .u64 a3,.int .u64 b3,.int .u64 d3,.int .u64 e3,.slice A3 m3 c3,.int .i64 l3,.int .i64 g3,.int .i64 n3] 29));have L16:=Lib.hid (bbx (bst L15.out hb.out) (.cells #[.int .i64 k3,.int .u64 a3,.int .u64 b3,.int .u64 d3,.int .u64 e3,.slice A3 m3 c3,.int .i64 l3,.int .i64 g3,.int .i64 n3] 29));have L26:=Lib.hid (bbx hb.out (.cells #[.int .i64 k3,.int .u64 a3,.int .u64 b3,.int .u64 d3,.int .u64 e3,.slice A3 m3 c3,.int .i64 l3,.int .i64 g3,.int .i64 n3] 29));clear HK3 hb)
  | (go_at_call 7;(with_reducible refine(KP4.out _).mono ?_);rintro _ w7 ⟨A4,c4,rfl,HK4,hb⟩;have HX4:=Lib.hid (box_all either A4 w7 (.int .i64 k4) (.int .u64 a4) (.int .u64 b4) (.int .u64 d4) (.int .u64 e4) (.slice A4 m4 c4) (.int .i64 l4) (.int .i64 g4) (.int .i64 n4) HK4.out);have HB7:=Lib.hid (bbx (bst HB6.out hb.out) (.cells #[.int .i64 k4,.int .u64 a4,.int .u64 b4,.int .u64 d4,.int .u64 e4,.slice A4 m4 c4,.int .i64 l4,.int .i64 g4,.int .i64 n4] 29));have L17:=Lib.hid (bbx (bst L16.out hb.out) (.cells #[.int .i64 k4,.int .u64 a4,.int .u64 b4,.int .u64 d4,.int .u64 e4,.slice A4 m4 c4,.int .i64 l4,.int .i64 g4,.int .i64 n4] 29));have L27:=Lib.hid (bbx (bst L26.out hb.out) (.cells #[.int .i64 k4,.int .u64 a4,.int .u64 b4,.int .u64 d4,.int .u64 e4,.slice A4 m4 c4,.int .i64 l4,.int .i64 g4,.int .i64 n4] 29));have L37:=Lib.hid (bbx hb.out (.cells #[.int .i64 k4,.int .u64 a4,.int .u64 b4,.int .u64 d4,.int .u64 e4,.slice A4 m4 c4,.int .i64 l4,.int .i64 g4,.int .i64 n4] 29));have HALL:=Lib.hid (fun W (hW:Below (w7.alloc (.cells #[.int .i64 k4,.int .u64 a4,.int .u64 b4,.int .u64 d4,.int .u64 e4,.slice A4 m4 c4,.int .i64 l4,.int .i64 g4,.int .i64 n4] 29)).heap.size (w7.alloc (.cells #[.int .i64 k4,.int .u64 a4,.int .u64 b4,.int .u64 d4,.int .u64 e4,.slice A4 m4 c4,.int .i64 l4,.int .i64 g4,.int .i64 n4] 29)) W)=>And.intro (HX1.out W (bst L17.out hW)) (And.intro (HX2.out W (bst L27.out hW)) (And.intro (HX3.out W (bst L37.out hW)) (HX4.out W hW))));obtain⟨⟨z0,z1,z2,z3,z4,z5,z6,z7,z8,_⟩,_⟩:=(HALL.out _ (Below.refl _ _)).2.2.1;have HK3:=Lib.hid (HALL.out _ (Below.refl _ _)).2.2.1.2;clear HK4 hb)
  | (go_at_call 8;(with_reducible refine(KR3.out _ _ _ HK3.out).mono ?_);rintro _ w8 ⟨rfl,HB8⟩;clear z0 z1 z2 z3 z4 z5 z6 z7 z8;obtain⟨⟨z0,z1,z2,z3,z4,z5,z6,z7,z8,_⟩,_⟩:=(HALL.out _ HB8.out).2.2.2;have HK4:=Lib.hid (HALL.out _ HB8.out).2.2.2.2)
  | (go_at_call 8;(with_reducible refine(KR4.out _ _ _ HK4.out).mono ?_);rintro _ w9 ⟨rfl,hb9⟩;clear z0 z1 z2 z3 z4 z5 z6 z7 z8;have HB9:=Lib.hid (bst HB8.out hb9.out);clear hb9))
 go_ret;exact⟨rfl,HB7.out.trans (HB8.out.mono HB7.out.size)⟩
theorem parts_r4 {a b s:ByteArray} {w:World} {xa yb x y both either:Re} (h1:a.size≤60) (h2:b.size≤60) (h3:s.size≤20) (ha:parseE a.data.toList=(some xa,0,0)) (hb:parseE b.data.toList=(some yb,0,0)) (hx:parseE ((⟨#[40]⟩++a)++⟨#[41]⟩:ByteArray).data.toList=(some x,0,0)) (hy:parseE ((⟨#[40]⟩++b)++⟨#[41]⟩:ByteArray).data.toList=(some y,0,0)) (hz:parseE ((((⟨#[40]⟩++a)++⟨#[41,40]⟩)++b)++⟨#[41]⟩:ByteArray).data.toList=(some both,0,0)) (he:parseE ((((⟨#[40]⟩++a)++⟨#[41,124,40]⟩)++b)++⟨#[41]⟩:ByteArray).data.toList=(some either,0,0)) (hr3:rightB both=true) (hr4:rightB either=false):
  Calls Tryd.prog 3 #[.string a,.string b,.string s] w fun e w'=>e= .returned (.bool true)∧Below w.heap.size w w':=by
 have KAW:=Lib.hid awake_any;have b1:decide ((60:Int)<(a.size:Int))=false:=by simp;omega
 have b2:decide ((60:Int)<(b.size:Int))=false:=by simp;omega
 have b3:decide ((20:Int)<(s.size:Int))=false:=by simp;omega
 have KW:=Lib.hid (whole_yes ha);have KW2:=Lib.hid (whole_yes hb);have Q1:=rdq_of hx;have Q2:=rdq_of hy;have Q3:=rdq_of hz;have Q4:=rdq_of he;obtain⟨k1,a1,b1,d1,e1,m1,l1,g1,n1,v1⟩:=val_re x;simp only[v1] at Q1;obtain⟨k2,a2,b2,d2,e2,m2,l2,g2,n2,v2⟩:=val_re y;simp only[v2] at Q2;obtain⟨k3,a3,b3,d3,e3,m3,l3,g3,n3,v3⟩:=val_re both;simp only[v3] at Q3;obtain⟨k4,a4,b4,d4,e4,m4,l4,g4,n4,v4⟩:=val_re either;simp only[v4] at Q4;have KP1:=Lib.hid Q1.read;have KR1:=Lib.hid Q1.right;have KM1:=Lib.hid Q1.mat;have KP2:=Lib.hid Q2.read;have KR2:=Lib.hid Q2.right;have KM2:=Lib.hid Q2.mat;have KP3:=Lib.hid Q3.read;have KR3:=Lib.hid Q3.right;have KM3:=Lib.hid Q3.mat;have KP4:=Lib.hid Q4.read;have KR4:=Lib.hid Q4.right;have KM4:=Lib.hid Q4.mat;rw[hr3] at KR3;rw[hr4] at KR4;clear ha hb hx hy hz he Q1 Q2 Q3 Q4 v1 v2 v3 v4 hr3 hr4;go_enter Tryd.func3,Tryd.ntmps3
 go_wp2_with (first
  | (go_at_call 5;(with_reducible refine(KAW.out _).mono ?_);rintro _ w1 ⟨rfl,hb1⟩;have HB1:=Lib.hid hb1;clear hb1)
  | (go_at_call 6;(with_reducible refine(KW.out _).mono ?_);rintro _ w2 ⟨rfl,hb2⟩;have HB2:=Lib.hid (bst HB1.out hb2);clear hb2)
  | (go_at_call 6;(with_reducible refine(KW2.out _).mono ?_);rintro _ w3 ⟨rfl,hb3⟩;have HB3:=Lib.hid (bst HB2.out hb3);clear hb3)
  | (go_at_call 7;(with_reducible refine(KP1.out _).mono ?_);rintro _ w4 ⟨A1,c1,rfl,HK1,hb⟩;have HX1:=Lib.hid (box_all x A1 w4 (.int .i64 k1) (.int .u64 a1) (.int .u64 b1) (.int .u64 d1) (.int .u64 e1) (.slice A1 m1 c1) (.int .i64 l1) (.int .i64 g1) (.int .i64 n1) HK1.out);have HB4:=Lib.hid (bbx (bst HB3.out hb.out) (.cells #[.int .i64 k1,.int .u64 a1,.int .u64 b1,.int .u64 d1,.int .u64 e1,.slice A1 m1 c1,.int .i64 l1,.int .i64 g1,.int .i64 n1] 29));clear HK1 hb)
  | (go_at_call 7;(with_reducible refine(KP2.out _).mono ?_);rintro _ w5 ⟨A2,c2,rfl,HK2,hb⟩;have HX2:=Lib.hid (box_all y A2 w5 (.int .i64 k2) (.int .u64 a2) (.int .u64 b2) (.int .u64 d2) (.int .u64 e2) (.slice A2 m2 c2) (.int .i64 l2) (.int .i64 g2) (.int .i64 n2) HK2.out);have HB5:=Lib.hid (bbx (bst HB4.out hb.out) (.cells #[.int .i64 k2,.int .u64 a2,.int .u64 b2,.int .u64 d2,.int .u64 e2,.slice A2 m2 c2,.int .i64 l2,.int .i64 g2,.int .i64 n2] 29));have L15:=Lib.hid (bbx hb.out (.cells #[.int .i64 k2,.int .u64 a2,.int .u64 b2,.int .u64 d2,.int .u64 e2,.slice A2 m2 c2,.int .i64 l2,.int .i64 g2,.int .i64 n2] 29));clear HK2 hb)
  | (go_at_call 7;(with_reducible refine(KP3.out _).mono ?_);rintro _ w6 ⟨A3,c3,rfl,HK3,hb⟩;have HX3:=Lib.hid (box_all both A3 w6 (.int .i64 k3) (.int .u64 a3) (.int .u64 b3) (.int .u64 d3) (.int .u64 e3) (.slice A3 m3 c3) (.int .i64 l3) (.int .i64 g3) (.int .i64 n3) HK3.out);have HB6:=Lib.hid (bbx (bst HB5.out hb.out) (.cells #[.int .i64 k3,.int .u64 a3,.int .u64 b3,.int .u64 d3,.int .u64 e3,.slice A3 m3 c3,.int .i64 l3,.int .i64 g3,.int .i64 n3] 29));have L16:=Lib.hid (bbx (bst L15.out hb.out) (.cells #[.int .i64 k3,.int .u64 a3,.int .u64 b3,.int .u64 d3,.int .u64 e3,.slice A3 m3 c3,.int .i64 l3,.int .i64 g3,.int .i64 n3] 29));have L26:=Lib.hid (bbx hb.out (.cells #[.int .i64 k3,.int .u64 a3,.int .u64 b3,.int .u64 d3,.int .u64 e3,.slice A3 m3 c3,.int .i64 l3,.int .i64 g3,.int .i64 n3] 29));clear HK3 hb)
  | (go_at_call 7;(with_reducible refine(KP4.out _).mono ?_);rintro _ w7 ⟨A4,c4,rfl,HK4,hb⟩;have HX4:=Lib.hid (box_all either A4 w7 (.int .i64 k4) (.int .u64 a4) (.int .u64 b4) (.int .u64 d4) (.int .u64 e4) (.slice A4 m4 c4) (.int .i64 l4) (.int .i64 g4) (.int .i64 n4) HK4.out);have HB7:=Lib.hid (bbx (bst HB6.out hb.out) (.cells #[.int .i64 k4,.int .u64 a4,.int .u64 b4,.int .u64 d4,.int .u64 e4,.slice A4 m4 c4,.int .i64 l4,.int .i64 g4,.int .i64 n4] 29));have L17:=Lib.hid (bbx (bst L16.out hb.out) (.cells #[.int .i64 k4,.int .u64 a4,.int .u64 b4,.int .u64 d4,.int .u64 e4,.slice A4 m4 c4,.int .i64 l4,.int .i64 g4,.int .i64 n4] 29));have L27:=Lib.hid (bbx (bst L26.out hb.out) (.cells #[.int .i64 k4,.int .u64 a4,.int .u64 b4,.int .u64 d4,.int .u64 e4,.slice A4 m4 c4,.int .i64 l4,.int .i64 g4,.int .i64 n4] 29));have L37:=Lib.hid (bbx hb.out (.cells #[.int .i64 k4,.int .u64 a4,.int .u64 b4,.int .u64 d4,.int .u64 e4,.slice A4 m4 c4,.int .i64 l4,.int .i64 g4,.int .i64 n4] 29));have HALL:=Lib.hid (fun W (hW:Below (w7.alloc (.cells #[.int .i64 k4,.int .u64 a4,.int .u64 b4,.int .u64 d4,.int .u64 e4,.slice A4 m4 c4,.int .i64 l4,.int .i64 g4,.int .i64 n4] 29)).heap.size (w7.alloc (.cells #[.int .i64 k4,.int .u64 a4,.int .u64 b4,.int .u64 d4,.int .u64 e4,.slice A4 m4 c4,.int .i64 l4,.int .i64 g4,.int .i64 n4] 29)) W)=>And.intro (HX1.out W (bst L17.out hW)) (And.intro (HX2.out W (bst L27.out hW)) (And.intro (HX3.out W (bst L37.out hW)) (HX4.out W hW))));obtain⟨⟨z0,z1,z2,z3,z4,z5,z6,z7,z8,_⟩,_⟩:=(HALL.out _ (Below.refl _ _)).2.2.1;have HK3:=Lib.hid (HALL.out _ (Below.refl _ _)).2.2.1.2;clear HK4 hb)
  | (go_at_call 8;(with_reducible refine(KR3.out _ _ _ HK3.out).mono ?_);rintro _ w8 ⟨rfl,HB8⟩;clear z0 z1 z2 z3 z4 z5 z6 z7 z8;obtain⟨⟨z0,z1,z2,z3,z4,z5,z6,z7,z8,_⟩,_⟩:=(HALL.out _ HB8.out).2.2.2;have HK4:=Lib.hid (HALL.out _ HB8.out).2.2.2.2)
  | (go_at_call 8;(with_reducible refine(KR4.out _ _ _ HK4.out).mono ?_);rintro _ w9 ⟨rfl,hb9⟩;clear z0 z1 z2 z3 z4 z5 z6 z7 z8;have HB9:=Lib.hid (bst HB8.out hb9.out);clear hb9))
 go_ret;exact⟨rfl,HB7.out.trans (HB9.out.mono HB7.out.size)⟩
theorem parts_main {a b s:ByteArray} {w:World} {xa yb x y both either:Re} (h1:a.size≤60) (h2:b.size≤60) (h3:s.size≤20) (ha:parseE a.data.toList=(some xa,0,0)) (hb:parseE b.data.toList=(some yb,0,0)) (hx:parseE ((⟨#[40]⟩++a)++⟨#[41]⟩:ByteArray).data.toList=(some x,0,0)) (hy:parseE ((⟨#[40]⟩++b)++⟨#[41]⟩:ByteArray).data.toList=(some y,0,0)) (hz:parseE ((((⟨#[40]⟩++a)++⟨#[41,40]⟩)++b)++⟨#[41]⟩:ByteArray).data.toList=(some both,0,0)) (he:parseE ((((⟨#[40]⟩++a)++⟨#[41,124,40]⟩)++b)++⟨#[41]⟩:ByteArray).data.toList=(some either,0,0)) (hr3:rightB both=true) (hr4:rightB either=true) (hmet:metB x y s.data.toList (s.size+1)=matB both s.data.toList) (hone:(matB x s.data.toList || matB y s.data.toList)=matB either s.data.toList):
  Calls Tryd.prog 3 #[.string a,.string b,.string s] w fun e w'=>e= .returned (.bool true)∧Below w.heap.size w w':=by
 have KAW:=Lib.hid awake_any;have b1:decide ((60:Int)<(a.size:Int))=false:=by simp;omega
 have b2:decide ((60:Int)<(b.size:Int))=false:=by simp;omega
 have b3:decide ((20:Int)<(s.size:Int))=false:=by simp;omega
 have KW:=Lib.hid (whole_yes ha);have KW2:=Lib.hid (whole_yes hb);have Q1:=rdq_of hx;have Q2:=rdq_of hy;have Q3:=rdq_of hz;have Q4:=rdq_of he;obtain⟨k1,a1,b1,d1,e1,m1,l1,g1,n1,v1⟩:=val_re x;simp only[v1] at Q1;obtain⟨k2,a2,b2,d2,e2,m2,l2,g2,n2,v2⟩:=val_re y;simp only[v2] at Q2;obtain⟨k3,a3,b3,d3,e3,m3,l3,g3,n3,v3⟩:=val_re both;simp only[v3] at Q3;obtain⟨k4,a4,b4,d4,e4,m4,l4,g4,n4,v4⟩:=val_re either;simp only[v4] at Q4;have KP1:=Lib.hid Q1.read;have KR1:=Lib.hid Q1.right;have KM1:=Lib.hid Q1.mat;have KP2:=Lib.hid Q2.read;have KR2:=Lib.hid Q2.right;have KM2:=Lib.hid Q2.mat;have KP3:=Lib.hid Q3.read;have KR3:=Lib.hid Q3.right;have KM3:=Lib.hid Q3.mat;have KP4:=Lib.hid Q4.read;have KR4:=Lib.hid Q4.right;have KM4:=Lib.hid Q4.mat;rw[hr3] at KR3;rw[hr4] at KR4;obtain⟨MB,hMB⟩:∃ MB:Nat→Bool,MB=metB x y s.data.toList:=⟨_,rfl⟩;have HM0:Hid (MB 0=false):=Lib.hid (by rw[hMB];rfl);have HMS:Hid (∀ j,MB (j+1)=(MB j || (matB x (s.data.toList.take j) && matB y (s.data.toList.drop j)))):=Lib.hid fun j=>by rw[hMB];exact metB_succ _ _ _ _
 rw[←hMB] at hmet;obtain⟨mb,hmb⟩:∃ mb,mb=matB both s.data.toList:=⟨_,rfl⟩;obtain⟨me,hme⟩:∃ me,me=matB either s.data.toList:=⟨_,rfl⟩;obtain⟨ox,hox⟩:∃ ox,ox=matB x s.data.toList:=⟨_,rfl⟩;obtain⟨oy,hoy⟩:∃ oy,oy=matB y s.data.toList:=⟨_,rfl⟩;rw[←hmb] at hmet;rw[←hme,←hox,←hoy] at hone;have HME:=Lib.hid hmet;have HONE:=Lib.hid hone;have HS:Hid (s.size≤20):=Lib.hid h3;have KS1:Hid (∀ W A c,Kids (Lt W.heap.size) W A x→RetV 9 #[.agg #[.int .i64 k1,.int .u64 a1,.int .u64 b1,.int .u64 d1,.int .u64 e1,.slice A m1 c,.int .i64 l1,.int .i64 g1,.int .i64 n1],.string s,.bool false,.bool false] (.bool ox) W):=Lib.hid fun W A c hk=>by rw[hox];exact KM1.out W A c hk s (by omega)
 have KS2:Hid (∀ W A c,Kids (Lt W.heap.size) W A y→RetV 9 #[.agg #[.int .i64 k2,.int .u64 a2,.int .u64 b2,.int .u64 d2,.int .u64 e2,.slice A m2 c,.int .i64 l2,.int .i64 g2,.int .i64 n2],.string s,.bool false,.bool false] (.bool oy) W):=Lib.hid fun W A c hk=>by rw[hoy];exact KM2.out W A c hk s (by omega)
 have KS3:Hid (∀ W A c,Kids (Lt W.heap.size) W A both→RetV 9 #[.agg #[.int .i64 k3,.int .u64 a3,.int .u64 b3,.int .u64 d3,.int .u64 e3,.slice A m3 c,.int .i64 l3,.int .i64 g3,.int .i64 n3],.string s,.bool false,.bool false] (.bool mb) W):=Lib.hid fun W A c hk=>by rw[hmb];exact KM3.out W A c hk s (by omega)
 have KS4:Hid (∀ W A c,Kids (Lt W.heap.size) W A either→RetV 9 #[.agg #[.int .i64 k4,.int .u64 a4,.int .u64 b4,.int .u64 d4,.int .u64 e4,.slice A m4 c,.int .i64 l4,.int .i64 g4,.int .i64 n4],.string s,.bool false,.bool false] (.bool me) W):=Lib.hid fun W A c hk=>by rw[hme];exact KM4.out W A c hk s (by omega)
 have KT1:Hid (∀ j W A c,j≤s.size→Kids (Lt W.heap.size) W A x→RetV 9 #[.agg #[.int .i64 k1,.int .u64 a1,.int .u64 b1,.int .u64 d1,.int .u64 e1,.slice A m1 c,.int .i64 l1,.int .i64 g1,.int .i64 n1],.string (s.extract 0 j),.bool false,.bool false] (.bool (matB x (s.data.toList.take j))) W):=Lib.hid fun j W A c hj hk=>by
  have e1:(s.extract 0 j).data.toList=s.data.toList.take j:=by simp
  have e2:(s.extract 0 j).size≤100:=by rw[←len_data,e1,List.length_take,len_data];omega
  have:=KM1.out W A c hk (s.extract 0 j) e2;rw[e1] at this;exact this
 have KT2:Hid (∀ j W A c,j≤s.size→Kids (Lt W.heap.size) W A y→RetV 9 #[.agg #[.int .i64 k2,.int .u64 a2,.int .u64 b2,.int .u64 d2,.int .u64 e2,.slice A m2 c,.int .i64 l2,.int .i64 g2,.int .i64 n2],.string (s.extract j s.size),.bool false,.bool false] (.bool (matB y (s.data.toList.drop j))) W):=Lib.hid fun j W A c hj hk=>by
  have e1:(s.extract j s.size).data.toList=s.data.toList.drop j:=by
   simp;exact List.take_of_length_le (by rw[List.length_drop,len_data];omega)
  have e2:(s.extract j s.size).size≤100:=by rw[←len_data,e1,List.length_drop,len_data];omega
  have:=KM2.out W A c hk (s.extract j s.size) e2;rw[e1] at this;exact this
 have hs20:s.size≤20:=h3;clear ha hb hx hy hz he Q1 Q2 Q3 Q4 v1 v2 v3 v4 hr3 hr4 hMB hmet hone hmb hme hox hoy KM1 KM2 KM3 KM4;go_enter Tryd.func3,Tryd.ntmps3
 go_wp2_with (first
  | (go_at_call 5;(with_reducible refine(KAW.out _).mono ?_);rintro _ w1 ⟨rfl,hb1⟩;have HB1:=Lib.hid hb1;clear hb1)
  | (go_at_call 6;(with_reducible refine(KW.out _).mono ?_);rintro _ w2 ⟨rfl,hb2⟩;have HB2:=Lib.hid (bst HB1.out hb2);clear hb2)
  | (go_at_call 6;(with_reducible refine(KW2.out _).mono ?_);rintro _ w3 ⟨rfl,hb3⟩;have HB3:=Lib.hid (bst HB2.out hb3);clear hb3)
  | (go_at_call 7;(with_reducible refine(KP1.out _).mono ?_);rintro _ w4 ⟨A1,c1,rfl,HK1,hb⟩;have HX1:=Lib.hid (box_all x A1 w4 (.int .i64 k1) (.int .u64 a1) (.int .u64 b1) (.int .u64 d1) (.int .u64 e1) (.slice A1 m1 c1) (.int .i64 l1) (.int .i64 g1) (.int .i64 n1) HK1.out);have HB4:=Lib.hid (bbx (bst HB3.out hb.out) (.cells #[.int .i64 k1,.int .u64 a1,.int .u64 b1,.int .u64 d1,.int .u64 e1,.slice A1 m1 c1,.int .i64 l1,.int .i64 g1,.int .i64 n1] 29));clear HK1 hb)
  | (go_at_call 7;(with_reducible refine(KP2.out _).mono ?_);rintro _ w5 ⟨A2,c2,rfl,HK2,hb⟩;have HX2:=Lib.hid (box_all y A2 w5 (.int .i64 k2) (.int .u64 a2) (.int .u64 b2) (.int .u64 d2) (.int .u64 e2) (.slice A2 m2 c2) (.int .i64 l2) (.int .i64 g2) (.int .i64 n2) HK2.out);have HB5:=Lib.hid (bbx (bst HB4.out hb.out) (.cells #[.int .i64 k2,.int .u64 a2,.int .u64 b2,.int .u64 d2,.int .u64 e2,.slice A2 m2 c2,.int .i64 l2,.int .i64 g2,.int .i64 n2] 29));have L15:=Lib.hid (bbx hb.out (.cells #[.int .i64 k2,.int .u64 a2,.int .u64 b2,.int .u64 d2,.int .u64 e2,.slice A2 m2 c2,.int .i64 l2,.int .i64 g2,.int .i64 n2] 29));clear HK2 hb)
  | (go_at_call 7;(with_reducible refine(KP3.out _).mono ?_);rintro _ w6 ⟨A3,c3,rfl,HK3,hb⟩;have HX3:=Lib.hid (box_all both A3 w6 (.int .i64 k3) (.int .u64 a3) (.int .u64 b3) (.int .u64 d3) (.int .u64 e3) (.slice A3 m3 c3) (.int .i64 l3) (.int .i64 g3) (.int .i64 n3) HK3.out);have HB6:=Lib.hid (bbx (bst HB5.out hb.out) (.cells #[.int .i64 k3,.int .u64 a3,.int .u64 b3,.int .u64 d3,.int .u64 e3,.slice A3 m3 c3,.int .i64 l3,.int .i64 g3,.int .i64 n3] 29));have L16:=Lib.hid (bbx (bst L15.out hb.out) (.cells #[.int .i64 k3,.int .u64 a3,.int .u64 b3,.int .u64 d3,.int .u64 e3,.slice A3 m3 c3,.int .i64 l3,.int .i64 g3,.int .i64 n3] 29));have L26:=Lib.hid (bbx hb.out (.cells #[.int .i64 k3,.int .u64 a3,.int .u64 b3,.int .u64 d3,.int .u64 e3,.slice A3 m3 c3,.int .i64 l3,.int .i64 g3,.int .i64 n3] 29));clear HK3 hb)
  | (go_at_call 7;(with_reducible refine(KP4.out _).mono ?_);rintro _ w7 ⟨A4,c4,rfl,HK4,hb⟩;have HX4:=Lib.hid (box_all either A4 w7 (.int .i64 k4) (.int .u64 a4) (.int .u64 b4) (.int .u64 d4) (.int .u64 e4) (.slice A4 m4 c4) (.int .i64 l4) (.int .i64 g4) (.int .i64 n4) HK4.out);have HB7:=Lib.hid (bbx (bst HB6.out hb.out) (.cells #[.int .i64 k4,.int .u64 a4,.int .u64 b4,.int .u64 d4,.int .u64 e4,.slice A4 m4 c4,.int .i64 l4,.int .i64 g4,.int .i64 n4] 29));have L17:=Lib.hid (bbx (bst L16.out hb.out) (.cells #[.int .i64 k4,.int .u64 a4,.int .u64 b4,.int .u64 d4,.int .u64 e4,.slice A4 m4 c4,.int .i64 l4,.int .i64 g4,.int .i64 n4] 29));have L27:=Lib.hid (bbx (bst L26.out hb.out) (.cells #[.int .i64 k4,.int .u64 a4,.int .u64 b4,.int .u64 d4,.int .u64 e4,.slice A4 m4 c4,.int .i64 l4,.int .i64 g4,.int .i64 n4] 29));have L37:=Lib.hid (bbx hb.out (.cells #[.int .i64 k4,.int .u64 a4,.int .u64 b4,.int .u64 d4,.int .u64 e4,.slice A4 m4 c4,.int .i64 l4,.int .i64 g4,.int .i64 n4] 29));have HALL:=Lib.hid (fun W (hW:Below (w7.alloc (.cells #[.int .i64 k4,.int .u64 a4,.int .u64 b4,.int .u64 d4,.int .u64 e4,.slice A4 m4 c4,.int .i64 l4,.int .i64 g4,.int .i64 n4] 29)).heap.size (w7.alloc (.cells #[.int .i64 k4,.int .u64 a4,.int .u64 b4,.int .u64 d4,.int .u64 e4,.slice A4 m4 c4,.int .i64 l4,.int .i64 g4,.int .i64 n4] 29)) W)=>And.intro (HX1.out W (bst L17.out hW)) (And.intro (HX2.out W (bst L27.out hW)) (And.intro (HX3.out W (bst L37.out hW)) (HX4.out W hW))));obtain⟨⟨z0,z1,z2,z3,z4,z5,z6,z7,z8,_⟩,_⟩:=(HALL.out _ (Below.refl _ _)).2.2.1;have HK3:=Lib.hid (HALL.out _ (Below.refl _ _)).2.2.1.2;clear HK4 hb)
  | (go_at_call 8;(with_reducible refine(KR3.out _ _ _ HK3.out).mono ?_);rintro _ w8 ⟨rfl,HB8⟩;clear z0 z1 z2 z3 z4 z5 z6 z7 z8;obtain⟨⟨z0,z1,z2,z3,z4,z5,z6,z7,z8,_⟩,_⟩:=(HALL.out _ HB8.out).2.2.2;have HK4:=Lib.hid (HALL.out _ HB8.out).2.2.2.2)
  | (go_at_call 8;(with_reducible refine(KR4.out _ _ _ HK4.out).mono ?_);rintro _ w9 ⟨rfl,hb9⟩;clear z0 z1 z2 z3 z4 z5 z6 z7 z8;have HB9:=Lib.hid (bst HB8.out hb9.out);clear hb9))
 have HALL9:=Lib.hid (fun W (hW:Below w9.heap.size w9 W)=>HALL.out W (bst HB9.out hW));have HBW:=Lib.hid (HB7.out.trans (HB9.out.mono HB7.out.size));clear HALL HB9 HB8 HB7 HX1 HX2 HX3 HX4 HB4 HB5 HB6 L15 L16 L17 L26 L27 L37 HK3 HK4 KP1 KP2 KP3 KP4 KR3 KR4 KAW KW KW2 HB1 HB2 HB3
 go_loopw [19,112] (fun mv i wr=>∃ j:Nat,j≤s.size+1∧i= .int .i64 (j:Nat)∧mv= .bool (MB j)∧Hid (Below w9.heap.size w9 wr)) (fun _ i _=>s.size+1 - (intOf i).toNat)
 case atStart=>exact⟨0,Nat.zero_le _,rfl,by rw[HM0.out],Lib.hid (Below.refl _ _)⟩
 case round=>
  obtain⟨j,hj,rfl,rfl,HBJ⟩:=hrel;obtain⟨mj,hmj⟩:∃ mj,mj=MB j:=⟨_,rfl⟩;have HMJ:=Lib.hid hmj;rw[←hmj];clear hmj;by_cases a:j<s.size+1
  ·have HJ:=Lib.hid a
   have hj2:j≤s.size:=by omega
   obtain⟨⟨x0,x1,x2,x3,x4,x5,x6,x7,x8,_⟩,_⟩:=(HALL9.out _ HBJ.out).1;obtain⟨⟨y0,y1,y2,y3,y4,y5,y6,y7,y8,_⟩,_⟩:=(HALL9.out _ HBJ.out).2.1
   cases mj with
   | true=>
     go_wp2;go_quiet (fail);go_wp2
     go_roundw
     case rel=>exact⟨j+1,by have:=HJ.out;omega,by go_num,by rw[HMS.out j,←HMJ.out];rfl,Lib.hid (HBJ.out.trans (below_dn _ _ _))⟩
     case measure=>have:=HJ.out;simp[intOf];omega
   | false=>
     have K1:=Lib.hid (KT1.out j wr A1 c1 hj2 (HALL9.out _ HBJ.out).1.2);have K2:=Lib.hid (KT2.out j wr A2 c2 hj2 (HALL9.out _ HBJ.out).2.1.2);obtain⟨u1,hu1⟩:∃ u,u=matB x (s.data.toList.take j):=⟨_,rfl⟩;obtain⟨u2,hu2⟩:∃ u,u=matB y (s.data.toList.drop j):=⟨_,rfl⟩;rw[←hu1] at K1;rw[←hu2] at K2;have HU:=Lib.hid (And.intro hu1 hu2);clear hu1 hu2;have hne:=bw_some wr;have xp0:=bw_cell x0;have xp1:=bw_cell x1;have xp2:=bw_cell x2;have xp3:=bw_cell x3;have xp4:=bw_cell x4;have xp5:=bw_cell x5;have xp6:=bw_cell x6;have xp7:=bw_cell x7;have xp8:=bw_cell x8;have yp0:=bw_cell y0;have yp1:=bw_cell y1;have yp2:=bw_cell y2;have yp3:=bw_cell y3;have yp4:=bw_cell y4;have yp5:=bw_cell y5;have yp6:=bw_cell y6;have yp7:=bw_cell y7;have yp8:=bw_cell y8
     cases u1 with
     | false=>
       go_wp2;refine wp_region_below (by kernel_rfl) (by kernel_rfl) ?_
       repeat (go_big_quiet_step (first | (go_at_call 9;with_reducible exact K1.out.bw (Below.refl _ _) _) | fail))
       refine wpQuiet_nil ?_;intro w5 hw5;obtain⟨m5,rfl⟩:=hw5;have B5:=Lib.hid m5.2;clear x0 y0 xp0 yp0 x1 y1 xp1 yp1 x2 y2 xp2 yp2 x3 y3 xp3 yp3 x4 y4 xp4 yp4 x5 y5 xp5 yp5 x6 y6 xp6 yp6 x7 y7 xp7 yp7 x8 y8 xp8 yp8;go_wp2
       go_roundw
       case rel=>exact⟨j+1,by have:=HJ.out;omega,by go_num,by rw[HMS.out j,←HMJ.out,←HU.out.1];rfl,Lib.hid (HBJ.out.trans (B5.out.mono HBJ.out.size))⟩
       case measure=>have:=HJ.out;simp[intOf];omega
     | true=>
       go_wp2;refine wp_region_below (by kernel_rfl) (by kernel_rfl) ?_
       repeat (go_big_quiet_step (first | (go_at_call 9;with_reducible exact K1.out.bw (Below.refl _ _) _) | (go_at_call 9;with_reducible exact K2.out.bw (Below.refl _ _) _) | fail))
       refine wpQuiet_nil ?_;intro w5 hw5;obtain⟨m5,rfl⟩:=hw5;have B5:=Lib.hid m5.2;clear x0 y0 xp0 yp0 x1 y1 xp1 yp1 x2 y2 xp2 yp2 x3 y3 xp3 yp3 x4 y4 xp4 yp4 x5 y5 xp5 yp5 x6 y6 xp6 yp6 x7 y7 xp7 yp7 x8 y8 xp8 yp8;go_wp2
       go_roundw
       case rel=>exact⟨j+1,by have:=HJ.out;omega,by go_num,by rw[HMS.out j,←HMJ.out,←HU.out.1,←HU.out.2];rfl,Lib.hid (HBJ.out.trans (B5.out.mono HBJ.out.size))⟩
       case measure=>have:=HJ.out;simp[intOf];omega
  ·obtain rfl:j=s.size+1:=by omega
   have hm9:mj=mb:=HMJ.out.trans HME.out;subst hm9;obtain⟨⟨x0,x1,x2,x3,x4,x5,x6,x7,x8,_⟩,_⟩:=(HALL9.out _ HBJ.out).1;have C1:=Lib.hid ((KS1.out wr A1 c1 (HALL9.out _ HBJ.out).1.2) wr (Below.refl _ _))
   cases ox with
   | true=>
     have ho:me=true:=by rw[←HONE.out];rfl
     subst ho
     cases mj
     all_goals (
      go_wp2_with (first
       | (go_at_call 9;(with_reducible refine(C1.out).mono ?_);rintro _ wa ⟨rfl,hba⟩;have HA:=Lib.hid (bst HBJ.out hba);have C3:=Lib.hid ((KS3.out wa A3 c3 (HALL9.out _ HA.out).2.2.1.2) wa (Below.refl _ _));clear hba x0 x1 x2 x3 x4 x5 x6 x7 x8;obtain⟨⟨x0,x1,x2,x3,x4,x5,x6,x7,x8,_⟩,_⟩:=(HALL9.out _ HA.out).2.2.1)
       | (go_at_call 9;(with_reducible refine(C3.out).mono ?_);rintro _ wb ⟨rfl,hbb⟩;have HB:=Lib.hid (bst HA.out hbb);have C4:=Lib.hid ((KS4.out wb A4 c4 (HALL9.out _ HB.out).2.2.2.2) wb (Below.refl _ _));clear hbb x0 x1 x2 x3 x4 x5 x6 x7 x8;obtain⟨⟨x0,x1,x2,x3,x4,x5,x6,x7,x8,_⟩,_⟩:=(HALL9.out _ HB.out).2.2.2)
       | (go_at_call 9;(with_reducible refine(C4.out).mono ?_);rintro _ wc ⟨rfl,hbc⟩;have HC:=Lib.hid (bst HB.out hbc);clear hbc))
      go_ret;exact⟨rfl,HBW.out.trans (HC.out.mono HBW.out.size)⟩)
   | false=>
     have ho:oy=me:=by rw[←HONE.out];rfl
     subst ho
     cases mj <;> cases oy
     all_goals (
      go_wp2_with (first
       | (go_at_call 9;(with_reducible refine(C1.out).mono ?_);rintro _ wa ⟨rfl,hba⟩;have HA:=Lib.hid (bst HBJ.out hba);have C2:=Lib.hid ((KS2.out wa A2 c2 (HALL9.out _ HA.out).2.1.2) wa (Below.refl _ _));clear hba x0 x1 x2 x3 x4 x5 x6 x7 x8;obtain⟨⟨x0,x1,x2,x3,x4,x5,x6,x7,x8,_⟩,_⟩:=(HALL9.out _ HA.out).2.1)
       | (go_at_call 9;(with_reducible refine(C2.out).mono ?_);rintro _ wb ⟨rfl,hbb⟩;have HB:=Lib.hid (bst HA.out hbb);have C3:=Lib.hid ((KS3.out wb A3 c3 (HALL9.out _ HB.out).2.2.1.2) wb (Below.refl _ _));clear hbb x0 x1 x2 x3 x4 x5 x6 x7 x8;obtain⟨⟨x0,x1,x2,x3,x4,x5,x6,x7,x8,_⟩,_⟩:=(HALL9.out _ HB.out).2.2.1)
       | (go_at_call 9;(with_reducible refine(C3.out).mono ?_);rintro _ wc ⟨rfl,hbc⟩;have HC:=Lib.hid (bst HB.out hbc);have C4:=Lib.hid ((KS4.out wc A4 c4 (HALL9.out _ HC.out).2.2.2.2) wc (Below.refl _ _));clear hbc x0 x1 x2 x3 x4 x5 x6 x7 x8;obtain⟨⟨x0,x1,x2,x3,x4,x5,x6,x7,x8,_⟩,_⟩:=(HALL9.out _ HC.out).2.2.2)
       | (go_at_call 9;(with_reducible refine(C4.out).mono ?_);rintro _ wd ⟨rfl,hbd⟩;have HD:=Lib.hid (bst HC.out hbd);clear hbd))
      go_ret;exact⟨rfl,HBW.out.trans (HD.out.mono HBW.out.size)⟩)
theorem er_ne {er:Int} {q n:Nat} (h:er=1∨er=8∧q<n):¬ er=0:=by rcases h with h | h <;> omega
theorem str_1 (a:ByteArray):((⟨#[40]⟩++a)++⟨#[41]⟩:ByteArray).data.toList=brk a.data.toList:=by simp[brk]
theorem str_3 (a b:ByteArray):((((⟨#[40]⟩++a)++⟨#[41,40]⟩)++b)++⟨#[41]⟩:ByteArray).data.toList=brk a.data.toList++brk b.data.toList:=by simp[brk]
theorem str_4 (a b:ByteArray):((((⟨#[40]⟩++a)++⟨#[41,124,40]⟩)++b)++⟨#[41]⟩:ByteArray).data.toList=brk a.data.toList++124::brk b.data.toList:=by simp[brk]
theorem walk_parts (a b s:ByteArray) (w:World):Calls Tryd.prog 3 #[.string a,.string b,.string s] w fun e w'=>e= .returned (.bool true)∧Below w.heap.size w w':=by
 by_cases h1:60<a.size
 ·exact parts_a h1
 by_cases h2:60<b.size
 ·exact parts_b (by omega) h2
 by_cases h3:20<s.size
 ·exact parts_s (by omega) (by omega) h3
 have la:a.data.toList.length=a.size:=len_data a;have lb:b.data.toList.length=b.size:=len_data b
 rcases parse_ends a.data.toList (by omega) with ⟨xa,ha⟩ | ⟨q,er,ha,_,her⟩
 ·rcases parse_ends b.data.toList (by omega) with ⟨yb,hb⟩ | ⟨q,er,hb,_,her⟩
  ·obtain⟨x,hx,_⟩:=parse_brk ha (by omega)
   obtain⟨y,hy,_⟩:=parse_brk hb (by omega);obtain⟨both,hz,_⟩:=parse_both ha hb (by omega) (by omega);obtain⟨either,he,_⟩:=parse_either ha hb (by omega) (by omega);have kx:=hx;have ky:=hy;have kz:=hz;have ke:=he;rw[←str_1] at hx hy;rw[←str_3] at hz;rw[←str_4] at he
   cases hr3:rightB both with
   | false=>exact parts_r3 (by omega) (by omega) (by omega) ha hb hx hy hz he hr3
   | true=>
     cases hr4:rightB either with
     | false=>exact parts_r4 (by omega) (by omega) (by omega) ha hb hx hy hz he hr3 hr4
     | true=>
       obtain⟨p1,p2,p3,p4⟩:=parts_law ha hb (by omega) (by omega) kx ky kz ke ((rightB_iff both).1 hr3);obtain⟨g1,g2⟩:=parts_bool p1 p2 ((rightB_iff both).1 hr3) ((rightB_iff either).1 hr4) p3 p4 s.data.toList;rw[len_data] at g1;exact parts_main (by omega) (by omega) (by omega) ha hb hx hy hz he hr3 hr4 g1 g2
  ·exact parts_nb (by omega) (by omega) (by omega) ha hb (er_ne her)
 ·exact parts_na (by omega) (by omega) (by omega) ha (er_ne her)
end Go.Proofs.YtiafefjaldcpbaaDoor
