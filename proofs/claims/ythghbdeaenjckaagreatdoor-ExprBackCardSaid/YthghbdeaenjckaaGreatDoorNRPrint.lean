import Derived.Laws.IdiomStrings
import Derived.Lib.SmallJoins
import Derived.Test.YthghbdeaenjckaaGreatDoorNRefs
import Derived.Test.YthghbdeaenjckaaGreatDoorDigits
namespace Go.Proofs.YthghbdeaenjckaaGreatDoor
open Go Go.RowKit
theorem nd_le:∀ (k u:Nat),u<10 ^ (k+1)→Lib.nDigits u≤k+1
 | 0,u,h=>by rw[Lib.nDigits_small (by simpa using h)];exact Nat.le_refl _
 | k+1,u,h=>by
   by_cases h1:u<10
   ·rw[Lib.nDigits_small h1];omega
   ·rw[Lib.nDigits_big h1]
    have:=nd_le k (u / 10) (by rw[Nat.pow_succ] at h;omega);omega
theorem one_byteN (w:World) (x:Int) (c:UInt8) (e:(c.toNat:Int)=x):
  (convert 77 9 (.slice (some ⟨w.heap.size,0,none⟩) 1 1)).run Tryz.prog (w.alloc (.cells #[.int .u8 x] 5))= .ok (.string ⟨#[c]⟩) (w.alloc (.cells #[.int .u8 x] 5)):=by
 refine run_convert_bytes_back (P:=Tryz.prog) (w.alloc (.cells #[.int .u8 x] 5)) 77 9 5 ⟨w.heap.size,0,none⟩ 1 [c] Tryz.underlying77 Tryz.underlying5 Tryz.underlying9 ?_;intro j hj;obtain rfl:j=0:=by simpa using hj
 show _=some (Value.int .u8 (c.toNat:Int));rw[e];exact cell_one_new _ _ _ 0 _ rfl
theorem ba_ofN (s:ByteArray) (l:List UInt8) (h:s.data.toList=l):s=⟨l.toArray⟩:=by
 apply ByteArray.ext;rw[←h]
theorem ret_str {s:ByteArray} {l:List UInt8} (h:s.data.toList=l):Ending.returned (.string s)= .returned (.string ⟨l.toArray⟩):=by rw[ba_ofN s l h]
theorem rprint_anyN (n:Int) (ha: -9223372036854775808≤n∧n≤9223372036854775807) (w:World):
  Calls Tryz.prog 45 #[.int .i64 n] w fun e w'=>e= .returned (.string ⟨(Lib.itoa n).toArray⟩)∧Below w.heap.size w w':=by
 obtain⟨M,hM⟩:∃ M:Int,M=if n<0 then -n else n:=⟨_,rfl⟩
 have k1:∀ w,Calls Tryz.prog 70 #[.int .i64 n] w fun e w'=>e= .returned (.int .u64 M)∧w=w':=fun w=>by rw[hM];exact mag_any n ha w
 have M0:0≤M:=by rw[hM];split <;> omega
 have M1:M≤9223372036854775808:=by rw[hM];split <;> omega
 have hlen:(Lib.decDigits M.toNat).length≤20:=by rw[Lib.decDigits_length];exact nd_le 19 _ (by omega)
 obtain⟨D,hD⟩:∃ D,D=Lib.decDigits M.toNat:=⟨_,rfl⟩
 have hi:Lib.itoa n=if n<0 then 45::D else D:=by
  unfold Lib.itoa;rw[hD,hM];split
  ·rw[show (-n).toNat=n.natAbs by omega]
  ·rfl
 obtain⟨L,hL⟩:∃ L,L=if n<0 then 45::D else D:=⟨_,rfl⟩
 rw[hi,←hL];have HL:=Lib.hid hL;clear hL;rw[←hD] at hlen;have HD0:=Lib.hid hD;have K1:=Lib.hid k1;clear k1 hM hi hD;go_enter Tryz.func45,Tryz.ntmps45;go_wp2_with (go_at_call 70;((with_reducible refine(K1.out _).mono ?_));rintro e' w' ⟨rfl,rfl⟩)
 go_loopw [3,4] (fun m o wr=>∃ (k:Nat) (s:ByteArray),m= .int .u64 k∧o= .string s∧(k:Int)≤M∧Lib.decDigits k++s.data.toList=D∧Below w.heap.size w wr) (fun m _ _=>(intOf m).toNat)
 case atStart=>
  refine⟨M.toNat,ByteArray.empty,?_,rfl,by omega,?_,Below.refl _ _⟩
  ·rw[show ((M.toNat:Nat):Int)=M by omega]
  ·rw[HD0.out];simp
 case round=>
  obtain⟨k,s,rfl,rfl,hk,hd,hb⟩:=hrel
  have hl:s.size≤20:=by
   have e:=congrArg List.length hd;rw[List.length_append] at e;have e2:s.size=s.data.toList.length:=(Array.length_toList).symm;omega
  have HD:=Lib.hid hd;clear hd;by_cases h:10≤(k:Int)
  ·obtain⟨c,ec,HC⟩:∃ c:UInt8,(c.toNat:Int)=48+(k:Int) % 10∧Hid (c=UInt8.ofNat (48+k % 10)):=
    ⟨UInt8.ofNat (48+k % 10),by rw[ofNat_toNat (by omega)];omega,Lib.hid rfl⟩
   have hc:=one_byteN wr (48+(k:Int) % 10) c ec;clear ec;go_wp2
   go_roundw
   case rel=>
    refine⟨k / 10,⟨#[c]⟩++s,rfl,rfl,by omega,?_,hb.alloc hb.size _⟩;rw[←HD.out,dec_big (show ¬ k<10 by omega),Go.Joins.data_append,HC.out];simp
   case measure=>simp[intOf];omega
  ·obtain⟨c,ec,HC⟩:∃ c:UInt8,(c.toNat:Int)=48+(k:Int)∧Hid (c=UInt8.ofNat (48+k)):=
    ⟨UInt8.ofNat (48+k),by rw[ofNat_toNat (by omega)];omega,Lib.hid rfl⟩
   have hc:=one_byteN wr (48+(k:Int)) c ec;clear ec
   have HX:Hid (c::s.data.toList=D):=by
    apply Lib.hid;rw[←HD.out,dec_small (show k<10 by omega),HC.out];rfl
   by_cases hn:n<0
   ·go_wp2
    go_ret;refine⟨ret_str ?_,hb.alloc hb.size _⟩;rw[HL.out,if_pos hn,Go.Joins.data_append,Go.Joins.data_append,←HX.out];rfl
   ·go_wp2
    go_ret;refine⟨ret_str ?_,hb.alloc hb.size _⟩;rw[HL.out,if_neg (by omega),Go.Joins.data_append,←HX.out];rfl
end Go.Proofs.YthghbdeaenjckaaGreatDoor
