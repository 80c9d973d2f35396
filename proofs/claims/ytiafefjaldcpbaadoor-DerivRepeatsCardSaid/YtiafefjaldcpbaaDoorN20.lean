import Derived.Deep.RegionHeld3
import Derived.Test.YtiafefjaldcpbaaDoorN19
namespace Go.Proofs.YtiafefjaldcpbaaDoor
open Go Go.RowKit
set_option maxRecDepth 100000
set_option maxHeartbeats 16000000
section
set_option linter.unusedVariables false
set_option linter.unusedSimpArgs false
section
variable {a s:ByteArray} {w:World}
theorem sbox_at (W:World) (h:Below (w.alloc (.cells #[.string s] 9)).heap.size (w.alloc (.cells #[.string s] 9)) W):W.cell? ⟨w.heap.size,0,none⟩=some (.string s):=by
 have h1:=heap_alloc_new w (.cells #[.string s] 9);have h2:W.heap[w.heap.size]?=some (.cells #[.string s] 9):=by rw[h.block _ (by simp)];exact h1
 exact(row_cell h2 0).trans rfl
theorem reps_a (h:40<a.size):Calls Tryd.prog 4 #[.string a,.string s] w fun e w'=>e= .returned (.bool true)∧Below w.heap.size w w':=by
 have KAW:=Lib.hid awake_any;have HS0:Hid (∀ W,Below (w.alloc (.cells #[.string s] 9)).heap.size (w.alloc (.cells #[.string s] 9)) W→W.cell? ⟨w.heap.size,0,none⟩=some (.string s)):=Lib.hid sbox_at;have HW0:=Lib.hid (one_box w (.cells #[.string s] 9));have b1:decide ((40:Int)<(a.size:Int))=true:=by simp;omega
 go_enter Tryd.func4,Tryd.ntmps4
 go_wp2_with (first
  | (go_at_call 5;(with_reducible refine(KAW.out _).mono ?_);rintro _ w1 ⟨rfl,hb1⟩;have HB1:=Lib.hid hb1;have zs1:=HS0.out w1 hb1;clear hb1))
 go_ret;exact⟨rfl,HW0.out.trans (HB1.out.mono HW0.out.size)⟩
theorem reps_s (h1:a.size≤40) (h:15<s.size):Calls Tryd.prog 4 #[.string a,.string s] w fun e w'=>e= .returned (.bool true)∧Below w.heap.size w w':=by
 have KAW:=Lib.hid awake_any;have HS0:Hid (∀ W,Below (w.alloc (.cells #[.string s] 9)).heap.size (w.alloc (.cells #[.string s] 9)) W→W.cell? ⟨w.heap.size,0,none⟩=some (.string s)):=Lib.hid sbox_at;have HW0:=Lib.hid (one_box w (.cells #[.string s] 9));have b1:decide ((40:Int)<(a.size:Int))=false:=by simp;omega
 have b2:decide ((15:Int)<(s.size:Int))=true:=by simp;omega
 go_enter Tryd.func4,Tryd.ntmps4
 go_wp2_with (first
  | (go_at_call 5;(with_reducible refine(KAW.out _).mono ?_);rintro _ w1 ⟨rfl,hb1⟩;have HB1:=Lib.hid hb1;have zs1:=HS0.out w1 hb1;clear hb1))
 go_ret;exact⟨rfl,HW0.out.trans (HB1.out.mono HW0.out.size)⟩
theorem reps_na {q:Nat} {er:Int} (h1:a.size≤40) (h2:s.size≤15) (ha:parseE a.data.toList=(none,q,er)) (her:¬ er=0):Calls Tryd.prog 4 #[.string a,.string s] w fun e w'=>e= .returned (.bool true)∧Below w.heap.size w w':=by
 have KAW:=Lib.hid awake_any;have HS0:Hid (∀ W,Below (w.alloc (.cells #[.string s] 9)).heap.size (w.alloc (.cells #[.string s] 9)) W→W.cell? ⟨w.heap.size,0,none⟩=some (.string s)):=Lib.hid sbox_at;have HW0:=Lib.hid (one_box w (.cells #[.string s] 9));have b1:decide ((40:Int)<(a.size:Int))=false:=by simp;omega
 have b2:decide ((15:Int)<(s.size:Int))=false:=by simp;omega
 have KW:=Lib.hid (whole_not ha her);clear ha her;go_enter Tryd.func4,Tryd.ntmps4
 go_wp2_with (first
  | (go_at_call 5;(with_reducible refine(KAW.out _).mono ?_);rintro _ w1 ⟨rfl,hb1⟩;have HB1:=Lib.hid hb1;have zs1:=HS0.out w1 hb1;clear hb1)
  | (go_at_call 6;(with_reducible refine(KW.out _).mono ?_);rintro _ w2 ⟨rfl,hb2⟩;have HB2:=Lib.hid (bst HB1.out hb2);clear hb2))
 go_ret;exact⟨rfl,HW0.out.trans (HB2.out.mono HW0.out.size)⟩
theorem reps_main_ye {xa r23 r2 r3 ro r1 rm rt:Re} (h1:a.size≤40) (h2:s.size≤15) (ha:parseE a.data.toList=(some xa,0,0)) (h23:parseE (((⟨#[40]⟩++a)++⟨#[41]⟩)++⟨#[123,50,44,51,125]⟩:ByteArray).data.toList=(some r23,0,0)) (h2:parseE (((⟨#[40]⟩++a)++⟨#[41]⟩)++((⟨#[40]⟩++a)++⟨#[41]⟩):ByteArray).data.toList=(some r2,0,0)) (h3:parseE ((((⟨#[40]⟩++a)++⟨#[41]⟩)++((⟨#[40]⟩++a)++⟨#[41]⟩))++((⟨#[40]⟩++a)++⟨#[41]⟩):ByteArray).data.toList=(some r3,0,0)) (ho:parseE (((⟨#[40]⟩++a)++⟨#[41]⟩)++⟨#[63]⟩:ByteArray).data.toList=(some ro,0,0)) (h1:parseE (((⟨#[40]⟩++a)++⟨#[41]⟩):ByteArray).data.toList=(some r1,0,0)) (hm:parseE (((⟨#[40]⟩++a)++⟨#[41]⟩)++⟨#[42]⟩:ByteArray).data.toList=(some rm,0,0)) (ht:parseE ((((⟨#[40]⟩++a)++⟨#[41]⟩)++((⟨#[40]⟩++a)++⟨#[41]⟩))++⟨#[42]⟩:ByteArray).data.toList=(some rt,0,0)) (hu2:matB r2 s.data.toList=true) (hse:s.toList=[]) (hlaw:(rightB r23 && rightB r2 && rightB ro && rightB rm)=true→matB r23 s.data.toList=true∧matB ro s.data.toList=true∧matB rm s.data.toList=true):
  Calls Tryd.prog 4 #[.string a,.string s] w fun e w'=>e= .returned (.bool true)∧Below w.heap.size w w':=by
 have KAW:=Lib.hid awake_any;have HS0:Hid (∀ W,Below (w.alloc (.cells #[.string s] 9)).heap.size (w.alloc (.cells #[.string s] 9)) W→W.cell? ⟨w.heap.size,0,none⟩=some (.string s)):=Lib.hid sbox_at;have HW0:=Lib.hid (one_box w (.cells #[.string s] 9));have b1:decide ((40:Int)<(a.size:Int))=false:=by simp;omega
 have b2:decide ((15:Int)<(s.size:Int))=false:=by simp;omega
 have KW:=Lib.hid (whole_yes ha);have y1:¬ 9223372036854775807<1+a.size+1+1:=by omega
 have y2:¬ 9223372036854775807<1+a.size+1+(1+a.size+1):=by omega
 have y3:¬ 9223372036854775807<1+a.size+1+(1+a.size+1)+1:=by omega
 have KI23:Hid (∀ (okb:Nat) (ok:Bool) (W:World),okb≠w.heap.size→IsAt W okb w.heap.size s ok→Calls Tryd.prog 10 #[.string (((⟨#[40]⟩++a)++⟨#[41]⟩)++⟨#[123,50,44,51,125]⟩),.pointer (some ⟨okb,0,none⟩),.pointer (some ⟨w.heap.size,0,none⟩)] W fun e w'=>e= .returned (.bool (matB r23 s.data.toList))∧Hid (IsAt w' okb w.heap.size s (ok && rightB r23))∧Hid (∀ B,B≤okb→Below B W w')):=Lib.hid fun okb ok W hne hi=>(is_c h23 (by omega) hi hne).mono fun e w' ⟨g1,g2,g3⟩=>⟨g1,Lib.hid g2,Lib.hid g3⟩
 have KI2:Hid (∀ (okb:Nat) (ok:Bool) (W:World),okb≠w.heap.size→IsAt W okb w.heap.size s ok→Calls Tryd.prog 10 #[.string (((⟨#[40]⟩++a)++⟨#[41]⟩)++((⟨#[40]⟩++a)++⟨#[41]⟩)),.pointer (some ⟨okb,0,none⟩),.pointer (some ⟨w.heap.size,0,none⟩)] W fun e w'=>e= .returned (.bool (matB r2 s.data.toList))∧Hid (IsAt w' okb w.heap.size s (ok && rightB r2))∧Hid (∀ B,B≤okb→Below B W w')):=Lib.hid fun okb ok W hne hi=>(is_c h2 (by omega) hi hne).mono fun e w' ⟨g1,g2,g3⟩=>⟨g1,Lib.hid g2,Lib.hid g3⟩
 have KIo:Hid (∀ (okb:Nat) (ok:Bool) (W:World),okb≠w.heap.size→IsAt W okb w.heap.size s ok→Calls Tryd.prog 10 #[.string (((⟨#[40]⟩++a)++⟨#[41]⟩)++⟨#[63]⟩),.pointer (some ⟨okb,0,none⟩),.pointer (some ⟨w.heap.size,0,none⟩)] W fun e w'=>e= .returned (.bool (matB ro s.data.toList))∧Hid (IsAt w' okb w.heap.size s (ok && rightB ro))∧Hid (∀ B,B≤okb→Below B W w')):=Lib.hid fun okb ok W hne hi=>(is_c ho (by omega) hi hne).mono fun e w' ⟨g1,g2,g3⟩=>⟨g1,Lib.hid g2,Lib.hid g3⟩
 have KIm:Hid (∀ (okb:Nat) (ok:Bool) (W:World),okb≠w.heap.size→IsAt W okb w.heap.size s ok→Calls Tryd.prog 10 #[.string (((⟨#[40]⟩++a)++⟨#[41]⟩)++⟨#[42]⟩),.pointer (some ⟨okb,0,none⟩),.pointer (some ⟨w.heap.size,0,none⟩)] W fun e w'=>e= .returned (.bool (matB rm s.data.toList))∧Hid (IsAt w' okb w.heap.size s (ok && rightB rm))∧Hid (∀ B,B≤okb→Below B W w')):=Lib.hid fun okb ok W hne hi=>(is_c hm (by omega) hi hne).mono fun e w' ⟨g1,g2,g3⟩=>⟨g1,Lib.hid g2,Lib.hid g3⟩
 rw[hu2] at KI2;obtain⟨q23,hq23⟩:∃ q,q=rightB r23:=⟨_,rfl⟩;rw[←hq23] at KI23 hlaw;obtain⟨u23,hu23⟩:∃ u,u=matB r23 s.data.toList:=⟨_,rfl⟩;rw[←hu23] at KI23 hlaw;obtain⟨q2,hq2⟩:∃ q,q=rightB r2:=⟨_,rfl⟩;rw[←hq2] at KI2 hlaw;obtain⟨qo,hqo⟩:∃ q,q=rightB ro:=⟨_,rfl⟩;rw[←hqo] at KIo hlaw;obtain⟨uo,huo⟩:∃ u,u=matB ro s.data.toList:=⟨_,rfl⟩;rw[←huo] at KIo hlaw;obtain⟨qm,hqm⟩:∃ q,q=rightB rm:=⟨_,rfl⟩;rw[←hqm] at KIm hlaw;obtain⟨um,hum⟩:∃ u,u=matB rm s.data.toList:=⟨_,rfl⟩;rw[←hum] at KIm hlaw;have HLAW:=Lib.hid hlaw;clear hlaw hu2 ha h23 h2 h3 ho h1 hm ht hq23 hq2 hqo hqm hu23 huo hum;go_enter Tryd.func4,Tryd.ntmps4
 go_wp2_with (first
  | (go_at_call 5;(with_reducible refine(KAW.out _).mono ?_);rintro _ w1 ⟨rfl,hb1⟩;have HB1:=Lib.hid hb1;have zs1:=HS0.out w1 hb1;clear hb1)
  | (go_at_call 6;(with_reducible refine(KW.out _).mono ?_);rintro _ w2 ⟨rfl,hb2⟩;have HB2:=Lib.hid (bst HB1.out hb2);have HNE:Hid (w2.heap.size≠w.heap.size):=Lib.hid (by have h1:=HB2.out.size;have h2:(w.alloc (.cells #[.string s] 9)).heap.size=w.heap.size+1:=(by simp);omega);have HOK:Hid (w.heap.size≤w2.heap.size):=Lib.hid (by have h1:=HB2.out.size;have h2:(w.alloc (.cells #[.string s] 9)).heap.size=w.heap.size+1:=(by simp);omega);have IS0:Hid (IsAt (w2.alloc (.cells #[.bool true] 4)) w2.heap.size w.heap.size s true):=Lib.hid ⟨(row_cell (heap_alloc_new w2 (.cells #[.bool true] 4)) 0).trans rfl,row_free (heap_alloc_new w2 (.cells #[.bool true] 4)) 0,HS0.out _ (bbx HB2.out _)⟩;have HBW:=Lib.hid (((HW0.out.trans (HB2.out.mono HW0.out.size)).alloc HOK.out (.cells #[.bool true] 4)));clear hb2)
  | (go_at_call 10;(with_reducible refine(KI23.out _ _ _ HNE.out IS0.out).mono ?_);rintro _ v23 ⟨rfl,IS23,HF23⟩;have i23:=IS23.out.c1;have s23:=IS23.out.c2;have HC23:=Lib.hid (HBW.out.trans (HF23.out _ HOK.out)))
  | (go_at_call 10;(with_reducible refine(KI2.out _ _ _ HNE.out IS23.out).mono ?_);rintro _ v2 ⟨rfl,IS2,HF2⟩;have i2:=IS2.out.c1;have s2:=IS2.out.c2;have HC2:=Lib.hid (HC23.out.trans (HF2.out _ HOK.out)))
  )
 have IS2d:=Lib.hid (IS2.out.below (Below.refl _ _).drew);have HC2d:=Lib.hid (HC2.out.drew);refine wp_region_held_drew (S:=(fun w'=>w'.cell? ⟨w.heap.size,0,none⟩=some (.string s))) (by kernel_rfl) IS2d.out.c2 ?_;intro hSo;refine wpAnyH_take (i:=4) (v:= .string s) rfl (by kernel_rfl) (by kernel_rfl) (by kernel_rfl) (fun _ _ _ h=>h) (Or.inl ⟨rfl,?yy4⟩) hSo ?_
 case yy4=>(intro w hSw;(try dsimp only at hSw);go_simp)
 (try simp only[Act.put,List.setIfInBounds_toArray,List.set_cons_zero,List.set_cons_succ,List.getElem_toArray,List.getElem_cons_zero,List.getElem_cons_succ])
 refine wpAnyH_take (i:=5) (v:= .bool true) rfl (by kernel_rfl) (by kernel_rfl) (by kernel_rfl) (fun _ _ _ h=>h) (Or.inl ⟨rfl,?yy5⟩) hSo ?_
 case yy5=>(intro w hSw;(try dsimp only at hSw);go_simp)
 (try simp only[Act.put,List.setIfInBounds_toArray,List.set_cons_zero,List.set_cons_succ,List.getElem_toArray,List.getElem_cons_zero,List.getElem_cons_succ])
 refine wpAnyH_take (i:=0) (v:= .func (.func 10) #[] #[.pointer (some ⟨w2.heap.size,0,none⟩),.pointer (some ⟨w.heap.size,0,none⟩)]) rfl (by kernel_rfl) (by kernel_rfl) (by kernel_rfl) (fun _ _ _ h=>h) (Or.inl ⟨rfl,?yy0⟩) hSo ?_
 case yy0=>(intro w hSw;(try dsimp only at hSw);go_simp)
 (try simp only[Act.put,List.setIfInBounds_toArray,List.set_cons_zero,List.set_cons_succ,List.getElem_toArray,List.getElem_cons_zero,List.getElem_cons_succ])
 refine wpAnyH_take (i:=1) (v:= .string (⟨#[40]⟩++a++⟨#[41]⟩)) rfl (by kernel_rfl) (by kernel_rfl) (by kernel_rfl) (fun _ _ _ h=>h) (Or.inl ⟨rfl,?yy1⟩) hSo ?_
 case yy1=>(intro w hSw;(try dsimp only at hSw);go_simp)
 (try simp only[Act.put,List.setIfInBounds_toArray,List.set_cons_zero,List.set_cons_succ,List.getElem_toArray,List.getElem_cons_zero,List.getElem_cons_succ])
 refine wpAnyH_take (i:=2) (v:= .string ((⟨#[40]⟩++a++⟨#[41]⟩)++⟨#[63]⟩)) rfl (by kernel_rfl) (by kernel_rfl) (by kernel_rfl) (fun _ _ _ h=>h) (Or.inl ⟨rfl,?yy2⟩) hSo ?_
 case yy2=>(intro w hSw;(try dsimp only at hSw);go_simp)
 (try simp only[Act.put,List.setIfInBounds_toArray,List.set_cons_zero,List.set_cons_succ,List.getElem_toArray,List.getElem_cons_zero,List.getElem_cons_succ])
 refine wpAnyH_ready (rs:=[3]) (by kernel_rfl) (by simp) ?_;refine AllReadyH.cons rfl (fun K hK=>?_) AllReadyH.nil
 go_simp
 (go_at_call 10;(with_reducible refine(KIo.out _ _ _ HNE.out IS2d.out).mono ?_);rintro _ vo ⟨rfl,ISo,HFo⟩;have io:=ISo.out.c1;have so:=ISo.out.c2;have HCo:=Lib.hid (HC2d.out.trans (HFo.out _ HOK.out)))
 refine hK.out _ _ so (fun hTo=>?_);clear hK
 (try simp only[Act.put,List.setIfInBounds_toArray,List.set_cons_zero,List.set_cons_succ,List.getElem_toArray,List.getElem_cons_zero,List.getElem_cons_succ])
 refine wpAnyH_take (i:=6) (v:= .bool true) rfl (by kernel_rfl) (by kernel_rfl) (by kernel_rfl) (fun _ _ _ h=>h) (Or.inl ⟨rfl,?yy6⟩) hTo ?_
 case yy6=>(intro w hSw;(try dsimp only at hSw);go_simp)
 (try simp only[Act.put,List.setIfInBounds_toArray,List.set_cons_zero,List.set_cons_succ,List.getElem_toArray,List.getElem_cons_zero,List.getElem_cons_succ])
 refine wpAnyH_take (i:=7) (v:=undef) rfl (by kernel_rfl) (by kernel_rfl) (by kernel_rfl) (fun _ _ _ h=>h) (Or.inr ⟨rfl,rfl⟩) hTo ?_
 (try simp only[Act.put,List.setIfInBounds_toArray,List.set_cons_zero,List.set_cons_succ,List.getElem_toArray,List.getElem_cons_zero,List.getElem_cons_succ])
 refine wpAnyH_take (i:=8) (v:=undef) rfl (by kernel_rfl) (by kernel_rfl) (by kernel_rfl) (fun _ _ _ h=>h) (Or.inr ⟨rfl,rfl⟩) hTo ?_
 (try simp only[Act.put,List.setIfInBounds_toArray,List.set_cons_zero,List.set_cons_succ,List.getElem_toArray,List.getElem_cons_zero,List.getElem_cons_succ])
 refine wpAnyH_take (i:=9) (v:=undef) rfl (by kernel_rfl) (by kernel_rfl) (by kernel_rfl) (fun _ _ _ h=>h) (Or.inr ⟨rfl,rfl⟩) hTo ?_
 (try simp only[Act.put,List.setIfInBounds_toArray,List.set_cons_zero,List.set_cons_succ,List.getElem_toArray,List.getElem_cons_zero,List.getElem_cons_succ])
 refine wpAnyH_take (i:=10) (v:= .bool true) rfl (by kernel_rfl) (by kernel_rfl) (by kernel_rfl) (fun _ _ _ h=>h) (Or.inl ⟨rfl,?yy10⟩) hTo ?_
 case yy10=>(intro w hSw;(try dsimp only at hSw);go_simp)
 (try simp only[Act.put,List.setIfInBounds_toArray,List.set_cons_zero,List.set_cons_succ,List.getElem_toArray,List.getElem_cons_zero,List.getElem_cons_succ])
 refine wpAnyH_take (i:=11) (v:= .bool uo) rfl (by kernel_rfl) (by kernel_rfl) (by kernel_rfl) (fun _ _ _ h=>h) (Or.inl ⟨rfl,?yy11⟩) hTo ?_
 case yy11=>(intro w hSw;(try dsimp only at hSw);go_simp)
 (try simp only[Act.put,List.setIfInBounds_toArray,List.set_cons_zero,List.set_cons_succ,List.getElem_toArray,List.getElem_cons_zero,List.getElem_cons_succ])
 refine wpAnyH_take (i:=12) (v:= .bool uo) rfl (by kernel_rfl) (by kernel_rfl) (by kernel_rfl) (fun _ _ _ h=>h) (Or.inl ⟨rfl,?yy12⟩) hTo ?_
 case yy12=>(intro w hSw;(try dsimp only at hSw);go_simp)
 (try simp only[Act.put,List.setIfInBounds_toArray,List.set_cons_zero,List.set_cons_succ,List.getElem_toArray,List.getElem_cons_zero,List.getElem_cons_succ])
 refine wpAnyH_done (by kernel_rfl) ?_ _
 all_goals (try go_wp2_with fail)
 all_goals (have ISod:=Lib.hid (ISo.out.below (Below.refl _ _).drew);have HCod:=Lib.hid (HCo.out.drew))
 refine wp_region_held_drew (S:=(fun w'=>w'.cell? ⟨w.heap.size,0,none⟩=some (.string s))) (by kernel_rfl) ISod.out.c2 ?_;intro hSm;refine wpAnyH_take (i:=4) (v:= .string s) rfl (by kernel_rfl) (by kernel_rfl) (by kernel_rfl) (fun _ _ _ h=>h) (Or.inl ⟨rfl,?yy4⟩) hSm ?_
 case yy4=>(intro w hSw;(try dsimp only at hSw);go_simp)
 (try simp only[Act.put,List.setIfInBounds_toArray,List.set_cons_zero,List.set_cons_succ,List.getElem_toArray,List.getElem_cons_zero,List.getElem_cons_succ])
 refine wpAnyH_take (i:=5) (v:= .bool true) rfl (by kernel_rfl) (by kernel_rfl) (by kernel_rfl) (fun _ _ _ h=>h) (Or.inl ⟨rfl,?yy5⟩) hSm ?_
 case yy5=>(intro w hSw;(try dsimp only at hSw);go_simp)
 (try simp only[Act.put,List.setIfInBounds_toArray,List.set_cons_zero,List.set_cons_succ,List.getElem_toArray,List.getElem_cons_zero,List.getElem_cons_succ])
 refine wpAnyH_take (i:=0) (v:= .func (.func 10) #[] #[.pointer (some ⟨w2.heap.size,0,none⟩),.pointer (some ⟨w.heap.size,0,none⟩)]) rfl (by kernel_rfl) (by kernel_rfl) (by kernel_rfl) (fun _ _ _ h=>h) (Or.inl ⟨rfl,?yy0⟩) hSm ?_
 case yy0=>(intro w hSw;(try dsimp only at hSw);go_simp)
 (try simp only[Act.put,List.setIfInBounds_toArray,List.set_cons_zero,List.set_cons_succ,List.getElem_toArray,List.getElem_cons_zero,List.getElem_cons_succ])
 refine wpAnyH_take (i:=1) (v:= .string (⟨#[40]⟩++a++⟨#[41]⟩)) rfl (by kernel_rfl) (by kernel_rfl) (by kernel_rfl) (fun _ _ _ h=>h) (Or.inl ⟨rfl,?yy1⟩) hSm ?_
 case yy1=>(intro w hSw;(try dsimp only at hSw);go_simp)
 (try simp only[Act.put,List.setIfInBounds_toArray,List.set_cons_zero,List.set_cons_succ,List.getElem_toArray,List.getElem_cons_zero,List.getElem_cons_succ])
 refine wpAnyH_take (i:=2) (v:= .string ((⟨#[40]⟩++a++⟨#[41]⟩)++⟨#[42]⟩)) rfl (by kernel_rfl) (by kernel_rfl) (by kernel_rfl) (fun _ _ _ h=>h) (Or.inl ⟨rfl,?yy2⟩) hSm ?_
 case yy2=>(intro w hSw;(try dsimp only at hSw);go_simp)
 (try simp only[Act.put,List.setIfInBounds_toArray,List.set_cons_zero,List.set_cons_succ,List.getElem_toArray,List.getElem_cons_zero,List.getElem_cons_succ])
 refine wpAnyH_ready (rs:=[3]) (by kernel_rfl) (by simp) ?_;refine AllReadyH.cons rfl (fun K hK=>?_) AllReadyH.nil
 go_simp
 (go_at_call 10;(with_reducible refine(KIm.out _ _ _ HNE.out ISod.out).mono ?_);rintro _ vm ⟨rfl,ISm,HFm⟩;have im:=ISm.out.c1;have sm:=ISm.out.c2;have HCm:=Lib.hid (HCod.out.trans (HFm.out _ HOK.out)))
 refine hK.out _ _ sm (fun hTm=>?_);clear hK
 (try simp only[Act.put,List.setIfInBounds_toArray,List.set_cons_zero,List.set_cons_succ,List.getElem_toArray,List.getElem_cons_zero,List.getElem_cons_succ])
 refine wpAnyH_take (i:=6) (v:= .bool true) rfl (by kernel_rfl) (by kernel_rfl) (by kernel_rfl) (fun _ _ _ h=>h) (Or.inl ⟨rfl,?yy6⟩) hTm ?_
 case yy6=>(intro w hSw;(try dsimp only at hSw);go_simp)
 (try simp only[Act.put,List.setIfInBounds_toArray,List.set_cons_zero,List.set_cons_succ,List.getElem_toArray,List.getElem_cons_zero,List.getElem_cons_succ])
 refine wpAnyH_take (i:=7) (v:=undef) rfl (by kernel_rfl) (by kernel_rfl) (by kernel_rfl) (fun _ _ _ h=>h) (Or.inr ⟨rfl,rfl⟩) hTm ?_
 (try simp only[Act.put,List.setIfInBounds_toArray,List.set_cons_zero,List.set_cons_succ,List.getElem_toArray,List.getElem_cons_zero,List.getElem_cons_succ])
 refine wpAnyH_take (i:=8) (v:=undef) rfl (by kernel_rfl) (by kernel_rfl) (by kernel_rfl) (fun _ _ _ h=>h) (Or.inr ⟨rfl,rfl⟩) hTm ?_
 (try simp only[Act.put,List.setIfInBounds_toArray,List.set_cons_zero,List.set_cons_succ,List.getElem_toArray,List.getElem_cons_zero,List.getElem_cons_succ])
 refine wpAnyH_take (i:=9) (v:=undef) rfl (by kernel_rfl) (by kernel_rfl) (by kernel_rfl) (fun _ _ _ h=>h) (Or.inr ⟨rfl,rfl⟩) hTm ?_
 (try simp only[Act.put,List.setIfInBounds_toArray,List.set_cons_zero,List.set_cons_succ,List.getElem_toArray,List.getElem_cons_zero,List.getElem_cons_succ])
 refine wpAnyH_take (i:=10) (v:=undef) rfl (by kernel_rfl) (by kernel_rfl) (by kernel_rfl) (fun _ _ _ h=>h) (Or.inr ⟨rfl,rfl⟩) hTm ?_
 (try simp only[Act.put,List.setIfInBounds_toArray,List.set_cons_zero,List.set_cons_succ,List.getElem_toArray,List.getElem_cons_zero,List.getElem_cons_succ])
 refine wpAnyH_take (i:=11) (v:=undef) rfl (by kernel_rfl) (by kernel_rfl) (by kernel_rfl) (fun _ _ _ h=>h) (Or.inr ⟨rfl,rfl⟩) hTm ?_
 (try simp only[Act.put,List.setIfInBounds_toArray,List.set_cons_zero,List.set_cons_succ,List.getElem_toArray,List.getElem_cons_zero,List.getElem_cons_succ])
 refine wpAnyH_take (i:=12) (v:=undef) rfl (by kernel_rfl) (by kernel_rfl) (by kernel_rfl) (fun _ _ _ h=>h) (Or.inr ⟨rfl,rfl⟩) hTm ?_
 (try simp only[Act.put,List.setIfInBounds_toArray,List.set_cons_zero,List.set_cons_succ,List.getElem_toArray,List.getElem_cons_zero,List.getElem_cons_succ])
 refine wpAnyH_take (i:=13) (v:= .bool true) rfl (by kernel_rfl) (by kernel_rfl) (by kernel_rfl) (fun _ _ _ h=>h) (Or.inl ⟨rfl,?yy13⟩) hTm ?_
 case yy13=>(intro w hSw;(try dsimp only at hSw);go_simp)
 (try simp only[Act.put,List.setIfInBounds_toArray,List.set_cons_zero,List.set_cons_succ,List.getElem_toArray,List.getElem_cons_zero,List.getElem_cons_succ])
 refine wpAnyH_take (i:=14) (v:= .bool um) rfl (by kernel_rfl) (by kernel_rfl) (by kernel_rfl) (fun _ _ _ h=>h) (Or.inl ⟨rfl,?yy14⟩) hTm ?_
 case yy14=>(intro w hSw;(try dsimp only at hSw);go_simp)
 (try simp only[Act.put,List.setIfInBounds_toArray,List.set_cons_zero,List.set_cons_succ,List.getElem_toArray,List.getElem_cons_zero,List.getElem_cons_succ])
 refine wpAnyH_take (i:=15) (v:= .bool um) rfl (by kernel_rfl) (by kernel_rfl) (by kernel_rfl) (fun _ _ _ h=>h) (Or.inl ⟨rfl,?yy15⟩) hTm ?_
 case yy15=>(intro w hSw;(try dsimp only at hSw);go_simp)
 (try simp only[Act.put,List.setIfInBounds_toArray,List.set_cons_zero,List.set_cons_succ,List.getElem_toArray,List.getElem_cons_zero,List.getElem_cons_succ])
 refine wpAnyH_done (by kernel_rfl) ?_ _
 all_goals (
  obtain⟨okf,hokf⟩:∃ okf,okf=((((true && q23) && q2) && qo) && qm):=⟨_,rfl⟩;rw[←hokf] at im;have HOF:=Lib.hid hokf;clear hokf
  cases okf with
  | false=>
    go_wp2;go_ret;exact⟨rfl,HCm.out⟩
  | true=>
    obtain⟨e1,e2,e3⟩:=HLAW.out (by have:=HOF.out;simpa using this.symm);subst e1 e2 e3;go_wp2;go_ret;exact⟨rfl,HCm.out⟩)
theorem reps_main_ne {xa r23 r2 r3 ro r1 rm rt:Re} (h1:a.size≤40) (h2:s.size≤15) (ha:parseE a.data.toList=(some xa,0,0)) (h23:parseE (((⟨#[40]⟩++a)++⟨#[41]⟩)++⟨#[123,50,44,51,125]⟩:ByteArray).data.toList=(some r23,0,0)) (h2:parseE (((⟨#[40]⟩++a)++⟨#[41]⟩)++((⟨#[40]⟩++a)++⟨#[41]⟩):ByteArray).data.toList=(some r2,0,0)) (h3:parseE ((((⟨#[40]⟩++a)++⟨#[41]⟩)++((⟨#[40]⟩++a)++⟨#[41]⟩))++((⟨#[40]⟩++a)++⟨#[41]⟩):ByteArray).data.toList=(some r3,0,0)) (ho:parseE (((⟨#[40]⟩++a)++⟨#[41]⟩)++⟨#[63]⟩:ByteArray).data.toList=(some ro,0,0)) (h1:parseE (((⟨#[40]⟩++a)++⟨#[41]⟩):ByteArray).data.toList=(some r1,0,0)) (hm:parseE (((⟨#[40]⟩++a)++⟨#[41]⟩)++⟨#[42]⟩:ByteArray).data.toList=(some rm,0,0)) (ht:parseE ((((⟨#[40]⟩++a)++⟨#[41]⟩)++((⟨#[40]⟩++a)++⟨#[41]⟩))++⟨#[42]⟩:ByteArray).data.toList=(some rt,0,0)) (hu2:matB r2 s.data.toList=false) (hse:s.toList=[]) (hlaw:(rightB r23 && rightB r2 && rightB r3 && rightB ro && rightB rm)=true→matB r23 s.data.toList=matB r3 s.data.toList∧matB ro s.data.toList=true∧matB rm s.data.toList=true):
  Calls Tryd.prog 4 #[.string a,.string s] w fun e w'=>e= .returned (.bool true)∧Below w.heap.size w w':=by
 have KAW:=Lib.hid awake_any;have HS0:Hid (∀ W,Below (w.alloc (.cells #[.string s] 9)).heap.size (w.alloc (.cells #[.string s] 9)) W→W.cell? ⟨w.heap.size,0,none⟩=some (.string s)):=Lib.hid sbox_at;have HW0:=Lib.hid (one_box w (.cells #[.string s] 9));have b1:decide ((40:Int)<(a.size:Int))=false:=by simp;omega
 have b2:decide ((15:Int)<(s.size:Int))=false:=by simp;omega
 have KW:=Lib.hid (whole_yes ha);have y1:¬ 9223372036854775807<1+a.size+1+1:=by omega
 have y2:¬ 9223372036854775807<1+a.size+1+(1+a.size+1):=by omega
 have y3:¬ 9223372036854775807<1+a.size+1+(1+a.size+1)+1:=by omega
 have KI23:Hid (∀ (okb:Nat) (ok:Bool) (W:World),okb≠w.heap.size→IsAt W okb w.heap.size s ok→Calls Tryd.prog 10 #[.string (((⟨#[40]⟩++a)++⟨#[41]⟩)++⟨#[123,50,44,51,125]⟩),.pointer (some ⟨okb,0,none⟩),.pointer (some ⟨w.heap.size,0,none⟩)] W fun e w'=>e= .returned (.bool (matB r23 s.data.toList))∧Hid (IsAt w' okb w.heap.size s (ok && rightB r23))∧Hid (∀ B,B≤okb→Below B W w')):=Lib.hid fun okb ok W hne hi=>(is_c h23 (by omega) hi hne).mono fun e w' ⟨g1,g2,g3⟩=>⟨g1,Lib.hid g2,Lib.hid g3⟩
 have KI2:Hid (∀ (okb:Nat) (ok:Bool) (W:World),okb≠w.heap.size→IsAt W okb w.heap.size s ok→Calls Tryd.prog 10 #[.string (((⟨#[40]⟩++a)++⟨#[41]⟩)++((⟨#[40]⟩++a)++⟨#[41]⟩)),.pointer (some ⟨okb,0,none⟩),.pointer (some ⟨w.heap.size,0,none⟩)] W fun e w'=>e= .returned (.bool (matB r2 s.data.toList))∧Hid (IsAt w' okb w.heap.size s (ok && rightB r2))∧Hid (∀ B,B≤okb→Below B W w')):=Lib.hid fun okb ok W hne hi=>(is_c h2 (by omega) hi hne).mono fun e w' ⟨g1,g2,g3⟩=>⟨g1,Lib.hid g2,Lib.hid g3⟩
 have KI3:Hid (∀ (okb:Nat) (ok:Bool) (W:World),okb≠w.heap.size→IsAt W okb w.heap.size s ok→Calls Tryd.prog 10 #[.string ((((⟨#[40]⟩++a)++⟨#[41]⟩)++((⟨#[40]⟩++a)++⟨#[41]⟩))++((⟨#[40]⟩++a)++⟨#[41]⟩)),.pointer (some ⟨okb,0,none⟩),.pointer (some ⟨w.heap.size,0,none⟩)] W fun e w'=>e= .returned (.bool (matB r3 s.data.toList))∧Hid (IsAt w' okb w.heap.size s (ok && rightB r3))∧Hid (∀ B,B≤okb→Below B W w')):=Lib.hid fun okb ok W hne hi=>(is_c h3 (by omega) hi hne).mono fun e w' ⟨g1,g2,g3⟩=>⟨g1,Lib.hid g2,Lib.hid g3⟩
 have KIo:Hid (∀ (okb:Nat) (ok:Bool) (W:World),okb≠w.heap.size→IsAt W okb w.heap.size s ok→Calls Tryd.prog 10 #[.string (((⟨#[40]⟩++a)++⟨#[41]⟩)++⟨#[63]⟩),.pointer (some ⟨okb,0,none⟩),.pointer (some ⟨w.heap.size,0,none⟩)] W fun e w'=>e= .returned (.bool (matB ro s.data.toList))∧Hid (IsAt w' okb w.heap.size s (ok && rightB ro))∧Hid (∀ B,B≤okb→Below B W w')):=Lib.hid fun okb ok W hne hi=>(is_c ho (by omega) hi hne).mono fun e w' ⟨g1,g2,g3⟩=>⟨g1,Lib.hid g2,Lib.hid g3⟩
 have KIm:Hid (∀ (okb:Nat) (ok:Bool) (W:World),okb≠w.heap.size→IsAt W okb w.heap.size s ok→Calls Tryd.prog 10 #[.string (((⟨#[40]⟩++a)++⟨#[41]⟩)++⟨#[42]⟩),.pointer (some ⟨okb,0,none⟩),.pointer (some ⟨w.heap.size,0,none⟩)] W fun e w'=>e= .returned (.bool (matB rm s.data.toList))∧Hid (IsAt w' okb w.heap.size s (ok && rightB rm))∧Hid (∀ B,B≤okb→Below B W w')):=Lib.hid fun okb ok W hne hi=>(is_c hm (by omega) hi hne).mono fun e w' ⟨g1,g2,g3⟩=>⟨g1,Lib.hid g2,Lib.hid g3⟩
 rw[hu2] at KI2;obtain⟨q23,hq23⟩:∃ q,q=rightB r23:=⟨_,rfl⟩;rw[←hq23] at KI23 hlaw;obtain⟨u23,hu23⟩:∃ u,u=matB r23 s.data.toList:=⟨_,rfl⟩;rw[←hu23] at KI23 hlaw;obtain⟨q2,hq2⟩:∃ q,q=rightB r2:=⟨_,rfl⟩;rw[←hq2] at KI2 hlaw;obtain⟨q3,hq3⟩:∃ q,q=rightB r3:=⟨_,rfl⟩;rw[←hq3] at KI3 hlaw;obtain⟨u3,hu3⟩:∃ u,u=matB r3 s.data.toList:=⟨_,rfl⟩;rw[←hu3] at KI3 hlaw;obtain⟨qo,hqo⟩:∃ q,q=rightB ro:=⟨_,rfl⟩;rw[←hqo] at KIo hlaw;obtain⟨uo,huo⟩:∃ u,u=matB ro s.data.toList:=⟨_,rfl⟩;rw[←huo] at KIo hlaw;obtain⟨qm,hqm⟩:∃ q,q=rightB rm:=⟨_,rfl⟩;rw[←hqm] at KIm hlaw;obtain⟨um,hum⟩:∃ u,u=matB rm s.data.toList:=⟨_,rfl⟩;rw[←hum] at KIm hlaw;have HLAW:=Lib.hid hlaw;clear hlaw hu2 ha h23 h2 h3 ho h1 hm ht hq23 hq2 hq3 hqo hqm hu23 hu3 huo hum;go_enter Tryd.func4,Tryd.ntmps4
 go_wp2_with (first
  | (go_at_call 5;(with_reducible refine(KAW.out _).mono ?_);rintro _ w1 ⟨rfl,hb1⟩;have HB1:=Lib.hid hb1;have zs1:=HS0.out w1 hb1;clear hb1)
  | (go_at_call 6;(with_reducible refine(KW.out _).mono ?_);rintro _ w2 ⟨rfl,hb2⟩;have HB2:=Lib.hid (bst HB1.out hb2);have HNE:Hid (w2.heap.size≠w.heap.size):=Lib.hid (by have h1:=HB2.out.size;have h2:(w.alloc (.cells #[.string s] 9)).heap.size=w.heap.size+1:=(by simp);omega);have HOK:Hid (w.heap.size≤w2.heap.size):=Lib.hid (by have h1:=HB2.out.size;have h2:(w.alloc (.cells #[.string s] 9)).heap.size=w.heap.size+1:=(by simp);omega);have IS0:Hid (IsAt (w2.alloc (.cells #[.bool true] 4)) w2.heap.size w.heap.size s true):=Lib.hid ⟨(row_cell (heap_alloc_new w2 (.cells #[.bool true] 4)) 0).trans rfl,row_free (heap_alloc_new w2 (.cells #[.bool true] 4)) 0,HS0.out _ (bbx HB2.out _)⟩;have HBW:=Lib.hid (((HW0.out.trans (HB2.out.mono HW0.out.size)).alloc HOK.out (.cells #[.bool true] 4)));clear hb2)
  | (go_at_call 10;(with_reducible refine(KI23.out _ _ _ HNE.out IS0.out).mono ?_);rintro _ v23 ⟨rfl,IS23,HF23⟩;have i23:=IS23.out.c1;have s23:=IS23.out.c2;have HC23:=Lib.hid (HBW.out.trans (HF23.out _ HOK.out)))
  | (go_at_call 10;(with_reducible refine(KI2.out _ _ _ HNE.out IS23.out).mono ?_);rintro _ v2 ⟨rfl,IS2,HF2⟩;have i2:=IS2.out.c1;have s2:=IS2.out.c2;have HC2:=Lib.hid (HC23.out.trans (HF2.out _ HOK.out)))
  | (go_at_call 10;(with_reducible refine(KI3.out _ _ _ HNE.out IS2.out).mono ?_);rintro _ v3 ⟨rfl,IS3,HF3⟩;have i3:=IS3.out.c1;have s3:=IS3.out.c2;have HC3:=Lib.hid (HC2.out.trans (HF3.out _ HOK.out)))
  )
 have IS3d:=Lib.hid (IS3.out.below (Below.refl _ _).drew);have HC3d:=Lib.hid (HC3.out.drew);refine wp_region_held_drew (S:=(fun w'=>w'.cell? ⟨w.heap.size,0,none⟩=some (.string s))) (by kernel_rfl) IS3d.out.c2 ?_;intro hSo;refine wpAnyH_take (i:=4) (v:= .string s) rfl (by kernel_rfl) (by kernel_rfl) (by kernel_rfl) (fun _ _ _ h=>h) (Or.inl ⟨rfl,?yy4⟩) hSo ?_
 case yy4=>(intro w hSw;(try dsimp only at hSw);go_simp)
 (try simp only[Act.put,List.setIfInBounds_toArray,List.set_cons_zero,List.set_cons_succ,List.getElem_toArray,List.getElem_cons_zero,List.getElem_cons_succ])
 refine wpAnyH_take (i:=5) (v:= .bool true) rfl (by kernel_rfl) (by kernel_rfl) (by kernel_rfl) (fun _ _ _ h=>h) (Or.inl ⟨rfl,?yy5⟩) hSo ?_
 case yy5=>(intro w hSw;(try dsimp only at hSw);go_simp)
 (try simp only[Act.put,List.setIfInBounds_toArray,List.set_cons_zero,List.set_cons_succ,List.getElem_toArray,List.getElem_cons_zero,List.getElem_cons_succ])
 refine wpAnyH_take (i:=0) (v:= .func (.func 10) #[] #[.pointer (some ⟨w2.heap.size,0,none⟩),.pointer (some ⟨w.heap.size,0,none⟩)]) rfl (by kernel_rfl) (by kernel_rfl) (by kernel_rfl) (fun _ _ _ h=>h) (Or.inl ⟨rfl,?yy0⟩) hSo ?_
 case yy0=>(intro w hSw;(try dsimp only at hSw);go_simp)
 (try simp only[Act.put,List.setIfInBounds_toArray,List.set_cons_zero,List.set_cons_succ,List.getElem_toArray,List.getElem_cons_zero,List.getElem_cons_succ])
 refine wpAnyH_take (i:=1) (v:= .string (⟨#[40]⟩++a++⟨#[41]⟩)) rfl (by kernel_rfl) (by kernel_rfl) (by kernel_rfl) (fun _ _ _ h=>h) (Or.inl ⟨rfl,?yy1⟩) hSo ?_
 case yy1=>(intro w hSw;(try dsimp only at hSw);go_simp)
 (try simp only[Act.put,List.setIfInBounds_toArray,List.set_cons_zero,List.set_cons_succ,List.getElem_toArray,List.getElem_cons_zero,List.getElem_cons_succ])
 refine wpAnyH_take (i:=2) (v:= .string ((⟨#[40]⟩++a++⟨#[41]⟩)++⟨#[63]⟩)) rfl (by kernel_rfl) (by kernel_rfl) (by kernel_rfl) (fun _ _ _ h=>h) (Or.inl ⟨rfl,?yy2⟩) hSo ?_
 case yy2=>(intro w hSw;(try dsimp only at hSw);go_simp)
 (try simp only[Act.put,List.setIfInBounds_toArray,List.set_cons_zero,List.set_cons_succ,List.getElem_toArray,List.getElem_cons_zero,List.getElem_cons_succ])
 refine wpAnyH_ready (rs:=[3]) (by kernel_rfl) (by simp) ?_;refine AllReadyH.cons rfl (fun K hK=>?_) AllReadyH.nil
 go_simp
 (go_at_call 10;(with_reducible refine(KIo.out _ _ _ HNE.out IS3d.out).mono ?_);rintro _ vo ⟨rfl,ISo,HFo⟩;have io:=ISo.out.c1;have so:=ISo.out.c2;have HCo:=Lib.hid (HC3d.out.trans (HFo.out _ HOK.out)))
 refine hK.out _ _ so (fun hTo=>?_);clear hK
 (try simp only[Act.put,List.setIfInBounds_toArray,List.set_cons_zero,List.set_cons_succ,List.getElem_toArray,List.getElem_cons_zero,List.getElem_cons_succ])
 refine wpAnyH_take (i:=6) (v:= .bool true) rfl (by kernel_rfl) (by kernel_rfl) (by kernel_rfl) (fun _ _ _ h=>h) (Or.inl ⟨rfl,?yy6⟩) hTo ?_
 case yy6=>(intro w hSw;(try dsimp only at hSw);go_simp)
 (try simp only[Act.put,List.setIfInBounds_toArray,List.set_cons_zero,List.set_cons_succ,List.getElem_toArray,List.getElem_cons_zero,List.getElem_cons_succ])
 refine wpAnyH_take (i:=7) (v:=undef) rfl (by kernel_rfl) (by kernel_rfl) (by kernel_rfl) (fun _ _ _ h=>h) (Or.inr ⟨rfl,rfl⟩) hTo ?_
 (try simp only[Act.put,List.setIfInBounds_toArray,List.set_cons_zero,List.set_cons_succ,List.getElem_toArray,List.getElem_cons_zero,List.getElem_cons_succ])
 refine wpAnyH_take (i:=8) (v:=undef) rfl (by kernel_rfl) (by kernel_rfl) (by kernel_rfl) (fun _ _ _ h=>h) (Or.inr ⟨rfl,rfl⟩) hTo ?_
 (try simp only[Act.put,List.setIfInBounds_toArray,List.set_cons_zero,List.set_cons_succ,List.getElem_toArray,List.getElem_cons_zero,List.getElem_cons_succ])
 refine wpAnyH_take (i:=9) (v:=undef) rfl (by kernel_rfl) (by kernel_rfl) (by kernel_rfl) (fun _ _ _ h=>h) (Or.inr ⟨rfl,rfl⟩) hTo ?_
 (try simp only[Act.put,List.setIfInBounds_toArray,List.set_cons_zero,List.set_cons_succ,List.getElem_toArray,List.getElem_cons_zero,List.getElem_cons_succ])
 refine wpAnyH_take (i:=10) (v:= .bool true) rfl (by kernel_rfl) (by kernel_rfl) (by kernel_rfl) (fun _ _ _ h=>h) (Or.inl ⟨rfl,?yy10⟩) hTo ?_
 case yy10=>(intro w hSw;(try dsimp only at hSw);go_simp)
 (try simp only[Act.put,List.setIfInBounds_toArray,List.set_cons_zero,List.set_cons_succ,List.getElem_toArray,List.getElem_cons_zero,List.getElem_cons_succ])
 refine wpAnyH_take (i:=11) (v:= .bool uo) rfl (by kernel_rfl) (by kernel_rfl) (by kernel_rfl) (fun _ _ _ h=>h) (Or.inl ⟨rfl,?yy11⟩) hTo ?_
 case yy11=>(intro w hSw;(try dsimp only at hSw);go_simp)
 (try simp only[Act.put,List.setIfInBounds_toArray,List.set_cons_zero,List.set_cons_succ,List.getElem_toArray,List.getElem_cons_zero,List.getElem_cons_succ])
 refine wpAnyH_take (i:=12) (v:= .bool uo) rfl (by kernel_rfl) (by kernel_rfl) (by kernel_rfl) (fun _ _ _ h=>h) (Or.inl ⟨rfl,?yy12⟩) hTo ?_
 case yy12=>(intro w hSw;(try dsimp only at hSw);go_simp)
 (try simp only[Act.put,List.setIfInBounds_toArray,List.set_cons_zero,List.set_cons_succ,List.getElem_toArray,List.getElem_cons_zero,List.getElem_cons_succ])
 refine wpAnyH_done (by kernel_rfl) ?_ _
 all_goals (try go_wp2_with fail)
 all_goals (have ISod:=Lib.hid (ISo.out.below (Below.refl _ _).drew);have HCod:=Lib.hid (HCo.out.drew))
 refine wp_region_held_drew (S:=(fun w'=>w'.cell? ⟨w.heap.size,0,none⟩=some (.string s))) (by kernel_rfl) ISod.out.c2 ?_;intro hSm;refine wpAnyH_take (i:=4) (v:= .string s) rfl (by kernel_rfl) (by kernel_rfl) (by kernel_rfl) (fun _ _ _ h=>h) (Or.inl ⟨rfl,?yy4⟩) hSm ?_
 case yy4=>(intro w hSw;(try dsimp only at hSw);go_simp)
 (try simp only[Act.put,List.setIfInBounds_toArray,List.set_cons_zero,List.set_cons_succ,List.getElem_toArray,List.getElem_cons_zero,List.getElem_cons_succ])
 refine wpAnyH_take (i:=5) (v:= .bool true) rfl (by kernel_rfl) (by kernel_rfl) (by kernel_rfl) (fun _ _ _ h=>h) (Or.inl ⟨rfl,?yy5⟩) hSm ?_
 case yy5=>(intro w hSw;(try dsimp only at hSw);go_simp)
 (try simp only[Act.put,List.setIfInBounds_toArray,List.set_cons_zero,List.set_cons_succ,List.getElem_toArray,List.getElem_cons_zero,List.getElem_cons_succ])
 refine wpAnyH_take (i:=0) (v:= .func (.func 10) #[] #[.pointer (some ⟨w2.heap.size,0,none⟩),.pointer (some ⟨w.heap.size,0,none⟩)]) rfl (by kernel_rfl) (by kernel_rfl) (by kernel_rfl) (fun _ _ _ h=>h) (Or.inl ⟨rfl,?yy0⟩) hSm ?_
 case yy0=>(intro w hSw;(try dsimp only at hSw);go_simp)
 (try simp only[Act.put,List.setIfInBounds_toArray,List.set_cons_zero,List.set_cons_succ,List.getElem_toArray,List.getElem_cons_zero,List.getElem_cons_succ])
 refine wpAnyH_take (i:=1) (v:= .string (⟨#[40]⟩++a++⟨#[41]⟩)) rfl (by kernel_rfl) (by kernel_rfl) (by kernel_rfl) (fun _ _ _ h=>h) (Or.inl ⟨rfl,?yy1⟩) hSm ?_
 case yy1=>(intro w hSw;(try dsimp only at hSw);go_simp)
 (try simp only[Act.put,List.setIfInBounds_toArray,List.set_cons_zero,List.set_cons_succ,List.getElem_toArray,List.getElem_cons_zero,List.getElem_cons_succ])
 refine wpAnyH_take (i:=2) (v:= .string ((⟨#[40]⟩++a++⟨#[41]⟩)++⟨#[42]⟩)) rfl (by kernel_rfl) (by kernel_rfl) (by kernel_rfl) (fun _ _ _ h=>h) (Or.inl ⟨rfl,?yy2⟩) hSm ?_
 case yy2=>(intro w hSw;(try dsimp only at hSw);go_simp)
 (try simp only[Act.put,List.setIfInBounds_toArray,List.set_cons_zero,List.set_cons_succ,List.getElem_toArray,List.getElem_cons_zero,List.getElem_cons_succ])
 refine wpAnyH_ready (rs:=[3]) (by kernel_rfl) (by simp) ?_;refine AllReadyH.cons rfl (fun K hK=>?_) AllReadyH.nil
 go_simp
 (go_at_call 10;(with_reducible refine(KIm.out _ _ _ HNE.out ISod.out).mono ?_);rintro _ vm ⟨rfl,ISm,HFm⟩;have im:=ISm.out.c1;have sm:=ISm.out.c2;have HCm:=Lib.hid (HCod.out.trans (HFm.out _ HOK.out)))
 refine hK.out _ _ sm (fun hTm=>?_);clear hK
 (try simp only[Act.put,List.setIfInBounds_toArray,List.set_cons_zero,List.set_cons_succ,List.getElem_toArray,List.getElem_cons_zero,List.getElem_cons_succ])
 refine wpAnyH_take (i:=6) (v:= .bool true) rfl (by kernel_rfl) (by kernel_rfl) (by kernel_rfl) (fun _ _ _ h=>h) (Or.inl ⟨rfl,?yy6⟩) hTm ?_
 case yy6=>(intro w hSw;(try dsimp only at hSw);go_simp)
 (try simp only[Act.put,List.setIfInBounds_toArray,List.set_cons_zero,List.set_cons_succ,List.getElem_toArray,List.getElem_cons_zero,List.getElem_cons_succ])
 refine wpAnyH_take (i:=7) (v:=undef) rfl (by kernel_rfl) (by kernel_rfl) (by kernel_rfl) (fun _ _ _ h=>h) (Or.inr ⟨rfl,rfl⟩) hTm ?_
 (try simp only[Act.put,List.setIfInBounds_toArray,List.set_cons_zero,List.set_cons_succ,List.getElem_toArray,List.getElem_cons_zero,List.getElem_cons_succ])
 refine wpAnyH_take (i:=8) (v:=undef) rfl (by kernel_rfl) (by kernel_rfl) (by kernel_rfl) (fun _ _ _ h=>h) (Or.inr ⟨rfl,rfl⟩) hTm ?_
 (try simp only[Act.put,List.setIfInBounds_toArray,List.set_cons_zero,List.set_cons_succ,List.getElem_toArray,List.getElem_cons_zero,List.getElem_cons_succ])
 refine wpAnyH_take (i:=9) (v:=undef) rfl (by kernel_rfl) (by kernel_rfl) (by kernel_rfl) (fun _ _ _ h=>h) (Or.inr ⟨rfl,rfl⟩) hTm ?_
 (try simp only[Act.put,List.setIfInBounds_toArray,List.set_cons_zero,List.set_cons_succ,List.getElem_toArray,List.getElem_cons_zero,List.getElem_cons_succ])
 refine wpAnyH_take (i:=10) (v:=undef) rfl (by kernel_rfl) (by kernel_rfl) (by kernel_rfl) (fun _ _ _ h=>h) (Or.inr ⟨rfl,rfl⟩) hTm ?_
 (try simp only[Act.put,List.setIfInBounds_toArray,List.set_cons_zero,List.set_cons_succ,List.getElem_toArray,List.getElem_cons_zero,List.getElem_cons_succ])
 refine wpAnyH_take (i:=11) (v:=undef) rfl (by kernel_rfl) (by kernel_rfl) (by kernel_rfl) (fun _ _ _ h=>h) (Or.inr ⟨rfl,rfl⟩) hTm ?_
 (try simp only[Act.put,List.setIfInBounds_toArray,List.set_cons_zero,List.set_cons_succ,List.getElem_toArray,List.getElem_cons_zero,List.getElem_cons_succ])
 refine wpAnyH_take (i:=12) (v:=undef) rfl (by kernel_rfl) (by kernel_rfl) (by kernel_rfl) (fun _ _ _ h=>h) (Or.inr ⟨rfl,rfl⟩) hTm ?_
 (try simp only[Act.put,List.setIfInBounds_toArray,List.set_cons_zero,List.set_cons_succ,List.getElem_toArray,List.getElem_cons_zero,List.getElem_cons_succ])
 refine wpAnyH_take (i:=13) (v:= .bool true) rfl (by kernel_rfl) (by kernel_rfl) (by kernel_rfl) (fun _ _ _ h=>h) (Or.inl ⟨rfl,?yy13⟩) hTm ?_
 case yy13=>(intro w hSw;(try dsimp only at hSw);go_simp)
 (try simp only[Act.put,List.setIfInBounds_toArray,List.set_cons_zero,List.set_cons_succ,List.getElem_toArray,List.getElem_cons_zero,List.getElem_cons_succ])
 refine wpAnyH_take (i:=14) (v:= .bool um) rfl (by kernel_rfl) (by kernel_rfl) (by kernel_rfl) (fun _ _ _ h=>h) (Or.inl ⟨rfl,?yy14⟩) hTm ?_
 case yy14=>(intro w hSw;(try dsimp only at hSw);go_simp)
 (try simp only[Act.put,List.setIfInBounds_toArray,List.set_cons_zero,List.set_cons_succ,List.getElem_toArray,List.getElem_cons_zero,List.getElem_cons_succ])
 refine wpAnyH_take (i:=15) (v:= .bool um) rfl (by kernel_rfl) (by kernel_rfl) (by kernel_rfl) (fun _ _ _ h=>h) (Or.inl ⟨rfl,?yy15⟩) hTm ?_
 case yy15=>(intro w hSw;(try dsimp only at hSw);go_simp)
 (try simp only[Act.put,List.setIfInBounds_toArray,List.set_cons_zero,List.set_cons_succ,List.getElem_toArray,List.getElem_cons_zero,List.getElem_cons_succ])
 refine wpAnyH_done (by kernel_rfl) ?_ _
 all_goals (
  obtain⟨okf,hokf⟩:∃ okf,okf=(((((true && q23) && q2) && q3) && qo) && qm):=⟨_,rfl⟩;rw[←hokf] at im;have HOF:=Lib.hid hokf;clear hokf
  cases okf with
  | false=>
    go_wp2;go_ret;exact⟨rfl,HCm.out⟩
  | true=>
    obtain⟨e1,e2,e3⟩:=HLAW.out (by have:=HOF.out;simpa using this.symm);subst e1 e2 e3;go_wp2;go_ret;exact⟨rfl,HCm.out⟩)
theorem reps_main_yf {xa r23 r2 r3 ro r1 rm rt:Re} (h1:a.size≤40) (h2:s.size≤15) (ha:parseE a.data.toList=(some xa,0,0)) (h23:parseE (((⟨#[40]⟩++a)++⟨#[41]⟩)++⟨#[123,50,44,51,125]⟩:ByteArray).data.toList=(some r23,0,0)) (h2:parseE (((⟨#[40]⟩++a)++⟨#[41]⟩)++((⟨#[40]⟩++a)++⟨#[41]⟩):ByteArray).data.toList=(some r2,0,0)) (h3:parseE ((((⟨#[40]⟩++a)++⟨#[41]⟩)++((⟨#[40]⟩++a)++⟨#[41]⟩))++((⟨#[40]⟩++a)++⟨#[41]⟩):ByteArray).data.toList=(some r3,0,0)) (ho:parseE (((⟨#[40]⟩++a)++⟨#[41]⟩)++⟨#[63]⟩:ByteArray).data.toList=(some ro,0,0)) (h1:parseE (((⟨#[40]⟩++a)++⟨#[41]⟩):ByteArray).data.toList=(some r1,0,0)) (hm:parseE (((⟨#[40]⟩++a)++⟨#[41]⟩)++⟨#[42]⟩:ByteArray).data.toList=(some rm,0,0)) (ht:parseE ((((⟨#[40]⟩++a)++⟨#[41]⟩)++((⟨#[40]⟩++a)++⟨#[41]⟩))++⟨#[42]⟩:ByteArray).data.toList=(some rt,0,0)) (hu2:matB r2 s.data.toList=true) {z0:UInt8} {zl:List UInt8} (hse:s.toList=z0::zl) (hlaw:(rightB r23 && rightB r2 && rightB ro && rightB r1 && rightB rm && rightB rt)=true→matB r23 s.data.toList=true∧matB ro s.data.toList=matB r1 s.data.toList∧matB rm s.data.toList=matB rt s.data.toList):
  Calls Tryd.prog 4 #[.string a,.string s] w fun e w'=>e= .returned (.bool true)∧Below w.heap.size w w':=by
 have KAW:=Lib.hid awake_any;have HS0:Hid (∀ W,Below (w.alloc (.cells #[.string s] 9)).heap.size (w.alloc (.cells #[.string s] 9)) W→W.cell? ⟨w.heap.size,0,none⟩=some (.string s)):=Lib.hid sbox_at;have HW0:=Lib.hid (one_box w (.cells #[.string s] 9));have b1:decide ((40:Int)<(a.size:Int))=false:=by simp;omega
 have b2:decide ((15:Int)<(s.size:Int))=false:=by simp;omega
 have KW:=Lib.hid (whole_yes ha);have y1:¬ 9223372036854775807<1+a.size+1+1:=by omega
 have y2:¬ 9223372036854775807<1+a.size+1+(1+a.size+1):=by omega
 have y3:¬ 9223372036854775807<1+a.size+1+(1+a.size+1)+1:=by omega
 have KI23:Hid (∀ (okb:Nat) (ok:Bool) (W:World),okb≠w.heap.size→IsAt W okb w.heap.size s ok→Calls Tryd.prog 10 #[.string (((⟨#[40]⟩++a)++⟨#[41]⟩)++⟨#[123,50,44,51,125]⟩),.pointer (some ⟨okb,0,none⟩),.pointer (some ⟨w.heap.size,0,none⟩)] W fun e w'=>e= .returned (.bool (matB r23 s.data.toList))∧Hid (IsAt w' okb w.heap.size s (ok && rightB r23))∧Hid (∀ B,B≤okb→Below B W w')):=Lib.hid fun okb ok W hne hi=>(is_c h23 (by omega) hi hne).mono fun e w' ⟨g1,g2,g3⟩=>⟨g1,Lib.hid g2,Lib.hid g3⟩
 have KI2:Hid (∀ (okb:Nat) (ok:Bool) (W:World),okb≠w.heap.size→IsAt W okb w.heap.size s ok→Calls Tryd.prog 10 #[.string (((⟨#[40]⟩++a)++⟨#[41]⟩)++((⟨#[40]⟩++a)++⟨#[41]⟩)),.pointer (some ⟨okb,0,none⟩),.pointer (some ⟨w.heap.size,0,none⟩)] W fun e w'=>e= .returned (.bool (matB r2 s.data.toList))∧Hid (IsAt w' okb w.heap.size s (ok && rightB r2))∧Hid (∀ B,B≤okb→Below B W w')):=Lib.hid fun okb ok W hne hi=>(is_c h2 (by omega) hi hne).mono fun e w' ⟨g1,g2,g3⟩=>⟨g1,Lib.hid g2,Lib.hid g3⟩
 have KIo:Hid (∀ (okb:Nat) (ok:Bool) (W:World),okb≠w.heap.size→IsAt W okb w.heap.size s ok→Calls Tryd.prog 10 #[.string (((⟨#[40]⟩++a)++⟨#[41]⟩)++⟨#[63]⟩),.pointer (some ⟨okb,0,none⟩),.pointer (some ⟨w.heap.size,0,none⟩)] W fun e w'=>e= .returned (.bool (matB ro s.data.toList))∧Hid (IsAt w' okb w.heap.size s (ok && rightB ro))∧Hid (∀ B,B≤okb→Below B W w')):=Lib.hid fun okb ok W hne hi=>(is_c ho (by omega) hi hne).mono fun e w' ⟨g1,g2,g3⟩=>⟨g1,Lib.hid g2,Lib.hid g3⟩
 have KI1:Hid (∀ (okb:Nat) (ok:Bool) (W:World),okb≠w.heap.size→IsAt W okb w.heap.size s ok→Calls Tryd.prog 10 #[.string (((⟨#[40]⟩++a)++⟨#[41]⟩)),.pointer (some ⟨okb,0,none⟩),.pointer (some ⟨w.heap.size,0,none⟩)] W fun e w'=>e= .returned (.bool (matB r1 s.data.toList))∧Hid (IsAt w' okb w.heap.size s (ok && rightB r1))∧Hid (∀ B,B≤okb→Below B W w')):=Lib.hid fun okb ok W hne hi=>(is_c h1 (by omega) hi hne).mono fun e w' ⟨g1,g2,g3⟩=>⟨g1,Lib.hid g2,Lib.hid g3⟩
 have KIm:Hid (∀ (okb:Nat) (ok:Bool) (W:World),okb≠w.heap.size→IsAt W okb w.heap.size s ok→Calls Tryd.prog 10 #[.string (((⟨#[40]⟩++a)++⟨#[41]⟩)++⟨#[42]⟩),.pointer (some ⟨okb,0,none⟩),.pointer (some ⟨w.heap.size,0,none⟩)] W fun e w'=>e= .returned (.bool (matB rm s.data.toList))∧Hid (IsAt w' okb w.heap.size s (ok && rightB rm))∧Hid (∀ B,B≤okb→Below B W w')):=Lib.hid fun okb ok W hne hi=>(is_c hm (by omega) hi hne).mono fun e w' ⟨g1,g2,g3⟩=>⟨g1,Lib.hid g2,Lib.hid g3⟩
 have KIt:Hid (∀ (okb:Nat) (ok:Bool) (W:World),okb≠w.heap.size→IsAt W okb w.heap.size s ok→Calls Tryd.prog 10 #[.string ((((⟨#[40]⟩++a)++⟨#[41]⟩)++((⟨#[40]⟩++a)++⟨#[41]⟩))++⟨#[42]⟩),.pointer (some ⟨okb,0,none⟩),.pointer (some ⟨w.heap.size,0,none⟩)] W fun e w'=>e= .returned (.bool (matB rt s.data.toList))∧Hid (IsAt w' okb w.heap.size s (ok && rightB rt))∧Hid (∀ B,B≤okb→Below B W w')):=Lib.hid fun okb ok W hne hi=>(is_c ht (by omega) hi hne).mono fun e w' ⟨g1,g2,g3⟩=>⟨g1,Lib.hid g2,Lib.hid g3⟩
 rw[hu2] at KI2;obtain⟨q23,hq23⟩:∃ q,q=rightB r23:=⟨_,rfl⟩;rw[←hq23] at KI23 hlaw;obtain⟨u23,hu23⟩:∃ u,u=matB r23 s.data.toList:=⟨_,rfl⟩;rw[←hu23] at KI23 hlaw;obtain⟨q2,hq2⟩:∃ q,q=rightB r2:=⟨_,rfl⟩;rw[←hq2] at KI2 hlaw;obtain⟨qo,hqo⟩:∃ q,q=rightB ro:=⟨_,rfl⟩;rw[←hqo] at KIo hlaw;obtain⟨uo,huo⟩:∃ u,u=matB ro s.data.toList:=⟨_,rfl⟩;rw[←huo] at KIo hlaw;obtain⟨q1,hq1⟩:∃ q,q=rightB r1:=⟨_,rfl⟩;rw[←hq1] at KI1 hlaw;obtain⟨u1,hu1⟩:∃ u,u=matB r1 s.data.toList:=⟨_,rfl⟩;rw[←hu1] at KI1 hlaw;obtain⟨qm,hqm⟩:∃ q,q=rightB rm:=⟨_,rfl⟩;rw[←hqm] at KIm hlaw;obtain⟨um,hum⟩:∃ u,u=matB rm s.data.toList:=⟨_,rfl⟩;rw[←hum] at KIm hlaw;obtain⟨qt,hqt⟩:∃ q,q=rightB rt:=⟨_,rfl⟩;rw[←hqt] at KIt hlaw;obtain⟨ut,hut⟩:∃ u,u=matB rt s.data.toList:=⟨_,rfl⟩;rw[←hut] at KIt hlaw;have HLAW:=Lib.hid hlaw;clear hlaw hu2 ha h23 h2 h3 ho h1 hm ht hq23 hq2 hqo hq1 hqm hqt hu23 huo hu1 hum hut;go_enter Tryd.func4,Tryd.ntmps4
 go_wp2_with (first
  | (go_at_call 5;(with_reducible refine(KAW.out _).mono ?_);rintro _ w1 ⟨rfl,hb1⟩;have HB1:=Lib.hid hb1;have zs1:=HS0.out w1 hb1;clear hb1)
  | (go_at_call 6;(with_reducible refine(KW.out _).mono ?_);rintro _ w2 ⟨rfl,hb2⟩;have HB2:=Lib.hid (bst HB1.out hb2);have HNE:Hid (w2.heap.size≠w.heap.size):=Lib.hid (by have h1:=HB2.out.size;have h2:(w.alloc (.cells #[.string s] 9)).heap.size=w.heap.size+1:=(by simp);omega);have HOK:Hid (w.heap.size≤w2.heap.size):=Lib.hid (by have h1:=HB2.out.size;have h2:(w.alloc (.cells #[.string s] 9)).heap.size=w.heap.size+1:=(by simp);omega);have IS0:Hid (IsAt (w2.alloc (.cells #[.bool true] 4)) w2.heap.size w.heap.size s true):=Lib.hid ⟨(row_cell (heap_alloc_new w2 (.cells #[.bool true] 4)) 0).trans rfl,row_free (heap_alloc_new w2 (.cells #[.bool true] 4)) 0,HS0.out _ (bbx HB2.out _)⟩;have HBW:=Lib.hid (((HW0.out.trans (HB2.out.mono HW0.out.size)).alloc HOK.out (.cells #[.bool true] 4)));clear hb2)
  | (go_at_call 10;(with_reducible refine(KI23.out _ _ _ HNE.out IS0.out).mono ?_);rintro _ v23 ⟨rfl,IS23,HF23⟩;have i23:=IS23.out.c1;have s23:=IS23.out.c2;have HC23:=Lib.hid (HBW.out.trans (HF23.out _ HOK.out)))
  | (go_at_call 10;(with_reducible refine(KI2.out _ _ _ HNE.out IS23.out).mono ?_);rintro _ v2 ⟨rfl,IS2,HF2⟩;have i2:=IS2.out.c1;have s2:=IS2.out.c2;have HC2:=Lib.hid (HC23.out.trans (HF2.out _ HOK.out)))
  )
 have IS2d:=Lib.hid (IS2.out.below (Below.refl _ _).drew);have HC2d:=Lib.hid (HC2.out.drew)
 go_region_held3 (fun w'=>w'.cell? ⟨w.heap.size,0,none⟩=some (.string s)) (first | exact IS2d.out.c2 | exact so | exact s1) (first | (go_at_call 10;(with_reducible refine(KIo.out _ _ _ HNE.out IS2d.out).mono ?_);rintro _ vo ⟨rfl,ISo,HFo⟩;have io:=ISo.out.c1;have so:=ISo.out.c2;have HCo:=Lib.hid (HC2d.out.trans (HFo.out _ HOK.out))) | (go_at_call 10;(with_reducible refine(KI1.out _ _ _ HNE.out ISo.out).mono ?_);rintro _ v1 ⟨rfl,IS1,HF1⟩;have i1:=IS1.out.c1;have s1:=IS1.out.c2;have HC1:=Lib.hid (HCo.out.trans (HF1.out _ HOK.out))) | fail)
 all_goals (try go_wp2_with fail)
 all_goals (have IS1d:=Lib.hid (IS1.out.below (Below.refl _ _).drew);have HC1d:=Lib.hid (HC1.out.drew))
 all_goals go_region_held3 (fun w'=>w'.cell? ⟨w.heap.size,0,none⟩=some (.string s)) (first | exact IS1d.out.c2 | exact sm | exact st) (first | (go_at_call 10;(with_reducible refine(KIm.out _ _ _ HNE.out IS1d.out).mono ?_);rintro _ vm ⟨rfl,ISm,HFm⟩;have im:=ISm.out.c1;have sm:=ISm.out.c2;have HCm:=Lib.hid (HC1d.out.trans (HFm.out _ HOK.out))) | (go_at_call 10;(with_reducible refine(KIt.out _ _ _ HNE.out ISm.out).mono ?_);rintro _ vt ⟨rfl,ISt,HFt⟩;have it:=ISt.out.c1;have st:=ISt.out.c2;have HCt:=Lib.hid (HCm.out.trans (HFt.out _ HOK.out))) | fail)
 all_goals (
  obtain⟨okf,hokf⟩:∃ okf,okf=((((((true && q23) && q2) && qo) && q1) && qm) && qt):=⟨_,rfl⟩;rw[←hokf] at it;have HOF:=Lib.hid hokf;clear hokf
  cases okf with
  | false=>
    go_wp2;go_ret;exact⟨rfl,HCt.out⟩
  | true=>
    obtain⟨e1,e2,e3⟩:=HLAW.out (by have:=HOF.out;simpa using this.symm);subst e1 e2 e3;go_wp2;go_ret;exact⟨rfl,HCt.out⟩)
theorem reps_main_nf {xa r23 r2 r3 ro r1 rm rt:Re} (h1:a.size≤40) (h2:s.size≤15) (ha:parseE a.data.toList=(some xa,0,0)) (h23:parseE (((⟨#[40]⟩++a)++⟨#[41]⟩)++⟨#[123,50,44,51,125]⟩:ByteArray).data.toList=(some r23,0,0)) (h2:parseE (((⟨#[40]⟩++a)++⟨#[41]⟩)++((⟨#[40]⟩++a)++⟨#[41]⟩):ByteArray).data.toList=(some r2,0,0)) (h3:parseE ((((⟨#[40]⟩++a)++⟨#[41]⟩)++((⟨#[40]⟩++a)++⟨#[41]⟩))++((⟨#[40]⟩++a)++⟨#[41]⟩):ByteArray).data.toList=(some r3,0,0)) (ho:parseE (((⟨#[40]⟩++a)++⟨#[41]⟩)++⟨#[63]⟩:ByteArray).data.toList=(some ro,0,0)) (h1:parseE (((⟨#[40]⟩++a)++⟨#[41]⟩):ByteArray).data.toList=(some r1,0,0)) (hm:parseE (((⟨#[40]⟩++a)++⟨#[41]⟩)++⟨#[42]⟩:ByteArray).data.toList=(some rm,0,0)) (ht:parseE ((((⟨#[40]⟩++a)++⟨#[41]⟩)++((⟨#[40]⟩++a)++⟨#[41]⟩))++⟨#[42]⟩:ByteArray).data.toList=(some rt,0,0)) (hu2:matB r2 s.data.toList=false) {z0:UInt8} {zl:List UInt8} (hse:s.toList=z0::zl) (hlaw:(rightB r23 && rightB r2 && rightB r3 && rightB ro && rightB r1 && rightB rm && rightB rt)=true→matB r23 s.data.toList=matB r3 s.data.toList∧matB ro s.data.toList=matB r1 s.data.toList∧matB rm s.data.toList=matB rt s.data.toList):
  Calls Tryd.prog 4 #[.string a,.string s] w fun e w'=>e= .returned (.bool true)∧Below w.heap.size w w':=by
 have KAW:=Lib.hid awake_any;have HS0:Hid (∀ W,Below (w.alloc (.cells #[.string s] 9)).heap.size (w.alloc (.cells #[.string s] 9)) W→W.cell? ⟨w.heap.size,0,none⟩=some (.string s)):=Lib.hid sbox_at;have HW0:=Lib.hid (one_box w (.cells #[.string s] 9));have b1:decide ((40:Int)<(a.size:Int))=false:=by simp;omega
 have b2:decide ((15:Int)<(s.size:Int))=false:=by simp;omega
 have KW:=Lib.hid (whole_yes ha);have y1:¬ 9223372036854775807<1+a.size+1+1:=by omega
 have y2:¬ 9223372036854775807<1+a.size+1+(1+a.size+1):=by omega
 have y3:¬ 9223372036854775807<1+a.size+1+(1+a.size+1)+1:=by omega
 have KI23:Hid (∀ (okb:Nat) (ok:Bool) (W:World),okb≠w.heap.size→IsAt W okb w.heap.size s ok→Calls Tryd.prog 10 #[.string (((⟨#[40]⟩++a)++⟨#[41]⟩)++⟨#[123,50,44,51,125]⟩),.pointer (some ⟨okb,0,none⟩),.pointer (some ⟨w.heap.size,0,none⟩)] W fun e w'=>e= .returned (.bool (matB r23 s.data.toList))∧Hid (IsAt w' okb w.heap.size s (ok && rightB r23))∧Hid (∀ B,B≤okb→Below B W w')):=Lib.hid fun okb ok W hne hi=>(is_c h23 (by omega) hi hne).mono fun e w' ⟨g1,g2,g3⟩=>⟨g1,Lib.hid g2,Lib.hid g3⟩
 have KI2:Hid (∀ (okb:Nat) (ok:Bool) (W:World),okb≠w.heap.size→IsAt W okb w.heap.size s ok→Calls Tryd.prog 10 #[.string (((⟨#[40]⟩++a)++⟨#[41]⟩)++((⟨#[40]⟩++a)++⟨#[41]⟩)),.pointer (some ⟨okb,0,none⟩),.pointer (some ⟨w.heap.size,0,none⟩)] W fun e w'=>e= .returned (.bool (matB r2 s.data.toList))∧Hid (IsAt w' okb w.heap.size s (ok && rightB r2))∧Hid (∀ B,B≤okb→Below B W w')):=Lib.hid fun okb ok W hne hi=>(is_c h2 (by omega) hi hne).mono fun e w' ⟨g1,g2,g3⟩=>⟨g1,Lib.hid g2,Lib.hid g3⟩
 have KI3:Hid (∀ (okb:Nat) (ok:Bool) (W:World),okb≠w.heap.size→IsAt W okb w.heap.size s ok→Calls Tryd.prog 10 #[.string ((((⟨#[40]⟩++a)++⟨#[41]⟩)++((⟨#[40]⟩++a)++⟨#[41]⟩))++((⟨#[40]⟩++a)++⟨#[41]⟩)),.pointer (some ⟨okb,0,none⟩),.pointer (some ⟨w.heap.size,0,none⟩)] W fun e w'=>e= .returned (.bool (matB r3 s.data.toList))∧Hid (IsAt w' okb w.heap.size s (ok && rightB r3))∧Hid (∀ B,B≤okb→Below B W w')):=Lib.hid fun okb ok W hne hi=>(is_c h3 (by omega) hi hne).mono fun e w' ⟨g1,g2,g3⟩=>⟨g1,Lib.hid g2,Lib.hid g3⟩
 have KIo:Hid (∀ (okb:Nat) (ok:Bool) (W:World),okb≠w.heap.size→IsAt W okb w.heap.size s ok→Calls Tryd.prog 10 #[.string (((⟨#[40]⟩++a)++⟨#[41]⟩)++⟨#[63]⟩),.pointer (some ⟨okb,0,none⟩),.pointer (some ⟨w.heap.size,0,none⟩)] W fun e w'=>e= .returned (.bool (matB ro s.data.toList))∧Hid (IsAt w' okb w.heap.size s (ok && rightB ro))∧Hid (∀ B,B≤okb→Below B W w')):=Lib.hid fun okb ok W hne hi=>(is_c ho (by omega) hi hne).mono fun e w' ⟨g1,g2,g3⟩=>⟨g1,Lib.hid g2,Lib.hid g3⟩
 have KI1:Hid (∀ (okb:Nat) (ok:Bool) (W:World),okb≠w.heap.size→IsAt W okb w.heap.size s ok→Calls Tryd.prog 10 #[.string (((⟨#[40]⟩++a)++⟨#[41]⟩)),.pointer (some ⟨okb,0,none⟩),.pointer (some ⟨w.heap.size,0,none⟩)] W fun e w'=>e= .returned (.bool (matB r1 s.data.toList))∧Hid (IsAt w' okb w.heap.size s (ok && rightB r1))∧Hid (∀ B,B≤okb→Below B W w')):=Lib.hid fun okb ok W hne hi=>(is_c h1 (by omega) hi hne).mono fun e w' ⟨g1,g2,g3⟩=>⟨g1,Lib.hid g2,Lib.hid g3⟩
 have KIm:Hid (∀ (okb:Nat) (ok:Bool) (W:World),okb≠w.heap.size→IsAt W okb w.heap.size s ok→Calls Tryd.prog 10 #[.string (((⟨#[40]⟩++a)++⟨#[41]⟩)++⟨#[42]⟩),.pointer (some ⟨okb,0,none⟩),.pointer (some ⟨w.heap.size,0,none⟩)] W fun e w'=>e= .returned (.bool (matB rm s.data.toList))∧Hid (IsAt w' okb w.heap.size s (ok && rightB rm))∧Hid (∀ B,B≤okb→Below B W w')):=Lib.hid fun okb ok W hne hi=>(is_c hm (by omega) hi hne).mono fun e w' ⟨g1,g2,g3⟩=>⟨g1,Lib.hid g2,Lib.hid g3⟩
 have KIt:Hid (∀ (okb:Nat) (ok:Bool) (W:World),okb≠w.heap.size→IsAt W okb w.heap.size s ok→Calls Tryd.prog 10 #[.string ((((⟨#[40]⟩++a)++⟨#[41]⟩)++((⟨#[40]⟩++a)++⟨#[41]⟩))++⟨#[42]⟩),.pointer (some ⟨okb,0,none⟩),.pointer (some ⟨w.heap.size,0,none⟩)] W fun e w'=>e= .returned (.bool (matB rt s.data.toList))∧Hid (IsAt w' okb w.heap.size s (ok && rightB rt))∧Hid (∀ B,B≤okb→Below B W w')):=Lib.hid fun okb ok W hne hi=>(is_c ht (by omega) hi hne).mono fun e w' ⟨g1,g2,g3⟩=>⟨g1,Lib.hid g2,Lib.hid g3⟩
 rw[hu2] at KI2;obtain⟨q23,hq23⟩:∃ q,q=rightB r23:=⟨_,rfl⟩;rw[←hq23] at KI23 hlaw;obtain⟨u23,hu23⟩:∃ u,u=matB r23 s.data.toList:=⟨_,rfl⟩;rw[←hu23] at KI23 hlaw;obtain⟨q2,hq2⟩:∃ q,q=rightB r2:=⟨_,rfl⟩;rw[←hq2] at KI2 hlaw;obtain⟨q3,hq3⟩:∃ q,q=rightB r3:=⟨_,rfl⟩;rw[←hq3] at KI3 hlaw;obtain⟨u3,hu3⟩:∃ u,u=matB r3 s.data.toList:=⟨_,rfl⟩;rw[←hu3] at KI3 hlaw;obtain⟨qo,hqo⟩:∃ q,q=rightB ro:=⟨_,rfl⟩;rw[←hqo] at KIo hlaw;obtain⟨uo,huo⟩:∃ u,u=matB ro s.data.toList:=⟨_,rfl⟩;rw[←huo] at KIo hlaw;obtain⟨q1,hq1⟩:∃ q,q=rightB r1:=⟨_,rfl⟩;rw[←hq1] at KI1 hlaw;obtain⟨u1,hu1⟩:∃ u,u=matB r1 s.data.toList:=⟨_,rfl⟩;rw[←hu1] at KI1 hlaw;obtain⟨qm,hqm⟩:∃ q,q=rightB rm:=⟨_,rfl⟩;rw[←hqm] at KIm hlaw;obtain⟨um,hum⟩:∃ u,u=matB rm s.data.toList:=⟨_,rfl⟩;rw[←hum] at KIm hlaw;obtain⟨qt,hqt⟩:∃ q,q=rightB rt:=⟨_,rfl⟩;rw[←hqt] at KIt hlaw;obtain⟨ut,hut⟩:∃ u,u=matB rt s.data.toList:=⟨_,rfl⟩;rw[←hut] at KIt hlaw;have HLAW:=Lib.hid hlaw;clear hlaw hu2 ha h23 h2 h3 ho h1 hm ht hq23 hq2 hq3 hqo hq1 hqm hqt hu23 hu3 huo hu1 hum hut;go_enter Tryd.func4,Tryd.ntmps4
 go_wp2_with (first
  | (go_at_call 5;(with_reducible refine(KAW.out _).mono ?_);rintro _ w1 ⟨rfl,hb1⟩;have HB1:=Lib.hid hb1;have zs1:=HS0.out w1 hb1;clear hb1)
  | (go_at_call 6;(with_reducible refine(KW.out _).mono ?_);rintro _ w2 ⟨rfl,hb2⟩;have HB2:=Lib.hid (bst HB1.out hb2);have HNE:Hid (w2.heap.size≠w.heap.size):=Lib.hid (by have h1:=HB2.out.size;have h2:(w.alloc (.cells #[.string s] 9)).heap.size=w.heap.size+1:=(by simp);omega);have HOK:Hid (w.heap.size≤w2.heap.size):=Lib.hid (by have h1:=HB2.out.size;have h2:(w.alloc (.cells #[.string s] 9)).heap.size=w.heap.size+1:=(by simp);omega);have IS0:Hid (IsAt (w2.alloc (.cells #[.bool true] 4)) w2.heap.size w.heap.size s true):=Lib.hid ⟨(row_cell (heap_alloc_new w2 (.cells #[.bool true] 4)) 0).trans rfl,row_free (heap_alloc_new w2 (.cells #[.bool true] 4)) 0,HS0.out _ (bbx HB2.out _)⟩;have HBW:=Lib.hid (((HW0.out.trans (HB2.out.mono HW0.out.size)).alloc HOK.out (.cells #[.bool true] 4)));clear hb2)
  | (go_at_call 10;(with_reducible refine(KI23.out _ _ _ HNE.out IS0.out).mono ?_);rintro _ v23 ⟨rfl,IS23,HF23⟩;have i23:=IS23.out.c1;have s23:=IS23.out.c2;have HC23:=Lib.hid (HBW.out.trans (HF23.out _ HOK.out)))
  | (go_at_call 10;(with_reducible refine(KI2.out _ _ _ HNE.out IS23.out).mono ?_);rintro _ v2 ⟨rfl,IS2,HF2⟩;have i2:=IS2.out.c1;have s2:=IS2.out.c2;have HC2:=Lib.hid (HC23.out.trans (HF2.out _ HOK.out)))
  | (go_at_call 10;(with_reducible refine(KI3.out _ _ _ HNE.out IS2.out).mono ?_);rintro _ v3 ⟨rfl,IS3,HF3⟩;have i3:=IS3.out.c1;have s3:=IS3.out.c2;have HC3:=Lib.hid (HC2.out.trans (HF3.out _ HOK.out)))
  )
 have IS3d:=Lib.hid (IS3.out.below (Below.refl _ _).drew);have HC3d:=Lib.hid (HC3.out.drew)
 go_region_held3 (fun w'=>w'.cell? ⟨w.heap.size,0,none⟩=some (.string s)) (first | exact IS3d.out.c2 | exact so | exact s1) (first | (go_at_call 10;(with_reducible refine(KIo.out _ _ _ HNE.out IS3d.out).mono ?_);rintro _ vo ⟨rfl,ISo,HFo⟩;have io:=ISo.out.c1;have so:=ISo.out.c2;have HCo:=Lib.hid (HC3d.out.trans (HFo.out _ HOK.out))) | (go_at_call 10;(with_reducible refine(KI1.out _ _ _ HNE.out ISo.out).mono ?_);rintro _ v1 ⟨rfl,IS1,HF1⟩;have i1:=IS1.out.c1;have s1:=IS1.out.c2;have HC1:=Lib.hid (HCo.out.trans (HF1.out _ HOK.out))) | fail)
 all_goals (try go_wp2_with fail)
 all_goals (have IS1d:=Lib.hid (IS1.out.below (Below.refl _ _).drew);have HC1d:=Lib.hid (HC1.out.drew))
 all_goals go_region_held3 (fun w'=>w'.cell? ⟨w.heap.size,0,none⟩=some (.string s)) (first | exact IS1d.out.c2 | exact sm | exact st) (first | (go_at_call 10;(with_reducible refine(KIm.out _ _ _ HNE.out IS1d.out).mono ?_);rintro _ vm ⟨rfl,ISm,HFm⟩;have im:=ISm.out.c1;have sm:=ISm.out.c2;have HCm:=Lib.hid (HC1d.out.trans (HFm.out _ HOK.out))) | (go_at_call 10;(with_reducible refine(KIt.out _ _ _ HNE.out ISm.out).mono ?_);rintro _ vt ⟨rfl,ISt,HFt⟩;have it:=ISt.out.c1;have st:=ISt.out.c2;have HCt:=Lib.hid (HCm.out.trans (HFt.out _ HOK.out))) | fail)
 all_goals (
  obtain⟨okf,hokf⟩:∃ okf,okf=(((((((true && q23) && q2) && q3) && qo) && q1) && qm) && qt):=⟨_,rfl⟩;rw[←hokf] at it;have HOF:=Lib.hid hokf;clear hokf
  cases okf with
  | false=>
    go_wp2;go_ret;exact⟨rfl,HCt.out⟩
  | true=>
    obtain⟨e1,e2,e3⟩:=HLAW.out (by have:=HOF.out;simpa using this.symm);subst e1 e2 e3;go_wp2;go_ret;exact⟨rfl,HCt.out⟩)
end
end
end Go.Proofs.YtiafefjaldcpbaaDoor
