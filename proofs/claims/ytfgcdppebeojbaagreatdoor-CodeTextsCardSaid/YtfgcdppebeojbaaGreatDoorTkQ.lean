import Derived.Test.YtfgcdppebeojbaaGreatDoorPlainC
import Derived.Test.YtfgcdppebeojbaaGreatDoorNBoth
import Derived.Deep.Onto
import Derived.Lib.ItoaLen
import Derived.Laws.BytesArg
import Derived.Deep.QuietTactic
import Derived.BigQuiet
import Derived.RegionTactic
import Derived.ChangeAlike
namespace Go.Proofs.YtfgcdppebeojbaaGreatDoor
open Go Go.RowKit
set_option maxRecDepth 100000
set_option maxHeartbeats 4000000
structure Tok where
 kind:Int
 word:Bs
 n:Int
 parts:List Pt
 pl:Int
def runL (p:UInt8→Bool):Bs→Nat
 | []=>0
 | c::r=>if p c then runL p r+1 else 0
theorem runL_cons (p:UInt8→Bool) (c:UInt8) (r:Bs):runL p (c::r)=if p c then runL p r+1 else 0:=rfl
theorem runL_le (p:UInt8→Bool):∀ l:Bs,runL p l≤l.length
 | []=>Nat.le_refl _
 | c::r=>by
   have:=runL_le p r;rw[runL_cons];split
   ·simp;omega
   ·simp
theorem runL_all (p:UInt8→Bool):∀ l:Bs,(l.take (runL p l)).all p=true
 | []=>rfl
 | c::r=>by
   have:=runL_all p r;rw[runL_cons];split
   ·rename_i h;rw[List.take_succ_cons,List.all_cons,h,this];rfl
   ·rfl
def isBl (c:UInt8):Bool:=decide ((c.toNat:Int)=32∨(c.toNat:Int)=9∨(c.toNat:Int)=10)
def notNl (c:UInt8):Bool:=decide (¬ (c.toNat:Int)=10)
def gap:Bool→Bs→Nat
 | _,[]=>0
 | true,c::r=>gap (notNl c) r+1
 | false,c::r=>if isBl c then gap false r+1 else if c=35 then gap true r+1 else 0
theorem gap_nil (m:Bool):gap m []=0:=by cases m <;> rfl
theorem gap_true (c:UInt8) (r:Bs):gap true (c::r)=gap (notNl c) r+1:=rfl
theorem gap_false (c:UInt8) (r:Bs):gap false (c::r)=if isBl c then gap false r+1 else if c=35 then gap true r+1 else 0:=rfl
theorem gap_le:∀ (m:Bool) (l:Bs),gap m l≤l.length
 | m,[]=>by rw[gap_nil];exact Nat.le_refl _
 | true,c::r=>by rw[gap_true,List.length_cons];have:=gap_le (notNl c) r;omega
 | false,c::r=>by
   rw[gap_false,List.length_cons];have h1:=gap_le false r;have h2:=gap_le true r
   split
   ·omega
   ·split <;> omega
theorem notNl_bl (c:UInt8) (h:notNl c=false):isBl c=true:=by
 unfold notNl at h;unfold isBl;simp only[decide_not,Bool.not_eq_false',decide_eq_true_eq] at h;simp[h]
theorem gap_remark:∀ r:Bs,gap true r=runL notNl r+gap false (r.drop (runL notNl r))
 | []=>rfl
 | c::r=>by
   rw[gap_true,runL_cons];by_cases h:notNl c=true
   ·rw[if_pos h,h,gap_remark r,List.drop_succ_cons];omega
   ·have h:=Bool.eq_false_iff.2 h
    rw[h,if_neg (by decide),List.drop_zero,gap_false,if_pos (notNl_bl c h)];omega
theorem gap_hash (r:Bs):gap false (35::r)=(runL notNl (35::r))+gap false ((35::r).drop (runL notNl (35::r))):=by
 have e:runL notNl (35::r)=runL notNl r+1:=by rw[runL_cons,if_pos (by decide)]
 rw[gap_false,if_neg (by decide),if_pos rfl,e,List.drop_succ_cons,gap_remark];omega
def isWordL (w:Bs):Bool:=match w with
 | []=>false
 | c::r=>isLow c && r.all isIn && decide (r.length≤13)
def isFlagL (w:Bs):Bool:=decide (w=[105]∨w=[101,120]∨w=[103,108]∨w=[114,101])
def sgns:List Bs:=[[60,61],[62,61],[61,61],[33,61],[38,38],[124,124],[123],[125],[40],[41],[43],[45],[42],[47],[37],[60],[62],[33]]
def isSignL (w:Bs):Bool:=sgns.contains w
def signL (l:Bs):Nat:=if isSignL (l.take 2) then (l.take 2).length else if isSignL (l.take 1) then 1 else 0
def mayW (k:Int) (w:Bs):Bool:=if k=1 then isWordL w else if k=4 then isSignL w else if k=5 then isFlagL w else if k=6 then isName w else false
def okT (t:Tok):Bool:=
 if t.kind=2 then t.word.isEmpty && decide (0≤t.n) && t.parts.isEmpty
 else if t.kind=3 then t.word.isEmpty && decide (t.n=0) && may false t.parts
 else mayW t.kind t.word && decide (t.n=0) && t.parts.isEmpty
def numR (l:Bs):Int × Int:=if l.head?=some 48∧¬ l.length=1 then (0,1) else if valN l<9223372036854775808 then ((valN l:Int),0) else (0,3)
inductive TR where
 | bad (q:Nat) (e:Int) | ok (t:Tok) (q:Nat)
def wordR (k:Int) (w:Bs) (q:Nat):TR:=if mayW k w then .ok ⟨k,w,0,[],0⟩ q else .bad 0 1
def numT (l:Bs):TR:=if (numR (l.take (runL isDig l))).2=0 then .ok ⟨2,[],(numR (l.take (runL isDig l))).1,[],0⟩ (runL isDig l) else .bad 0 (numR (l.take (runL isDig l))).2
def textR (l:Bs):TR:=match parse l with
 | (none,q)=> .bad q 1
 | (some ps,q)=> .ok ⟨3,[],0,ps,0⟩ q
def lowHead (l:Bs):Bool:=match l with
 | []=>false
 | c::_=>isLow c
def tokR (l:Bs):TR:=match l with
 | []=> .bad 0 1
 | c::r=>
   if c=34 then textR l
   else if isDig c then numT l
   else if isLow c then wordR 1 (l.take (runL isIn l)) (runL isIn l)
   else if c=36 then wordR 6 (r.take (runL isIn r)) (runL isIn r+1)
   else if c=45∧lowHead r=true then wordR 5 (r.take (runL isLow r)) (runL isLow r+1)
   else wordR 4 (l.take (signL l)) (signL l)
def behind (s:Bs) (k:Nat):Nat:=k+gap false (s.drop k)
theorem behind_ge (s:Bs) (k:Nat):k≤behind s k:=by unfold behind;omega
theorem behind_le (s:Bs) (k:Nat) (h:k≤s.length):behind s k≤s.length:=by
 have:=gap_le false (s.drop k);rw[List.length_drop] at this;unfold behind;omega
def withPl (t:Tok) (k:Int):Tok:=⟨t.kind,t.word,t.n,t.parts,k⟩
def goT (s:Bs) (k:Nat) (acc:List Tok):Option (List Tok) × Nat × Int:=
 if k<s.length then (match tokR (s.drop k) with
  | .bad q e=>(none,k+q,e)
  | .ok t q=>if 0<q then goT s (behind s (k+q)) (acc++[withPl t k]) else (none,0,1))
 else (some acc,0,0)
termination_by s.length - k
decreasing_by
 have:=behind_ge s (k+q);omega
def scan (s:Bs):Option (List Tok) × Nat × Int:=if 2000<s.length then (none,2000,2) else goT s (behind s 0) []
theorem sign_cases {w:Bs} (h:isSignL w=true):w∈sgns:=by unfold isSignL at h;exact List.contains_iff_mem.1 h
theorem sign_len {w:Bs} (h:isSignL w=true):0<w.length∧w.length≤2:=by
 have h:=sign_cases h;unfold sgns at h;simp only[List.mem_cons,List.not_mem_nil,or_false] at h
 rcases h with h | h | h | h | h | h | h | h | h | h | h | h | h | h | h | h | h | h <;> (subst h;decide)
theorem sign_nil:isSignL []=false:=by decide
theorem take2_le (l:Bs):(l.take 2).length≤l.length:=by rw[List.length_take];omega
theorem signL_le (l:Bs):signL l≤l.length:=by
 unfold signL
 split
 ·exact take2_le l
 ·split
  ·rename_i h
   have:=(sign_len h).1;rw[List.length_take] at this;omega
  ·exact Nat.zero_le _
theorem signL_pos {l:Bs} (h:isSignL (l.take (signL l))=true):0<signL l:=by
 rcases Nat.eq_zero_or_pos (signL l) with e | e
 ·rw[e,List.take_zero,sign_nil] at h;cases h
 ·exact e
theorem low_in (c:UInt8) (h:isLow c=true):isIn c=true:=by unfold isIn;rw[h];rfl
theorem numR_facts (l:Bs):0≤(numR l).1∧(numR l).1≤9223372036854775807∧((numR l).2=0∨(numR l).2=1∨(numR l).2=3):=by
 unfold numR
 split
 ·exact⟨by decide,by decide,.inr (.inl rfl)⟩
 ·split
  ·rename_i h
   exact⟨Int.natCast_nonneg _,by dsimp only;omega,.inl rfl⟩
  ·exact⟨by decide,by decide,.inr (.inr rfl)⟩
theorem wordR_ok {k:Int} {w:Bs} {q q':Nat} {t:Tok} (h:wordR k w q= .ok t q'):q'=q∧t=⟨k,w,0,[],0⟩∧mayW k w=true:=by
 unfold wordR at h
 split at h
 ·rename_i hm
  injection h with h1 h2
  exact⟨h2.symm,h1.symm,hm⟩
 ·cases h
theorem wordR_bad {k:Int} {w:Bs} {q q':Nat} {e:Int} (h:wordR k w q= .bad q' e):q'=0∧e=1:=by
 unfold wordR at h
 split at h
 ·cases h
 ·injection h with h1 h2;exact⟨h1.symm,h2.symm⟩
theorem okT_word {k:Int} {w:Bs} (h2:k≠2) (h3:k≠3) (h:mayW k w=true):okT ⟨k,w,0,[],0⟩=true:=by
 unfold okT;dsimp only;rw[if_neg h2,if_neg h3,h];rfl
theorem tokR_ok {l:Bs} {t:Tok} {q:Nat} (h:tokR l= .ok t q):0<q∧q≤l.length∧okT t=true∧t.pl=0∧t.n≤9223372036854775807∧t.word.length≤l.length∧(t.parts=[]∨∃ q',parse l=(some t.parts,q')):=by
 cases l with
 | nil=>cases h
 | cons c r=>
   unfold tokR at h;dsimp only at h
   split at h
   ·unfold textR at h
    split at h
    ·cases h
    ·rename_i ps q' hp
     injection h with h1 h2
     subst h1 h2;have hb:=parse_bd (c::r);rw[hp] at hb;have hm:=parse_may (c::r) ps (by rw[hp]);refine⟨(hb.2 rfl).1,hb.1,?_,rfl,by dsimp only;omega,by simp,.inr ⟨_,hp⟩⟩;show okT ⟨3,[],0,ps,0⟩=true;unfold okT;simp[hm]
   ·split at h
    ·rename_i hd
     unfold numT at h
     split at h
     ·injection h with h1 h2
      subst h1 h2;obtain⟨n0,n1,_⟩:=numR_facts ((c::r).take (runL isDig (c::r)));refine⟨by rw[runL_cons,if_pos hd];omega,runL_le _ _,?_,rfl,n1,by simp,.inl rfl⟩;unfold okT;simp[n0]
     ·cases h
    ·split at h
     ·rename_i hl
      obtain⟨rfl,rfl,hm⟩:=wordR_ok h;exact⟨by rw[runL_cons,if_pos (low_in _ hl)];omega,runL_le _ _,okT_word (by decide) (by decide) hm,rfl,by dsimp only;omega,by dsimp only;rw[List.length_take];omega,.inl rfl⟩
     ·split at h
      ·obtain⟨rfl,rfl,hm⟩:=wordR_ok h
       have:=runL_le isIn r;exact⟨by omega,by rw[List.length_cons];omega,okT_word (by decide) (by decide) hm,rfl,by dsimp only;omega,by dsimp only;rw[List.length_take,List.length_cons];omega,.inl rfl⟩
      ·split at h
       ·obtain⟨rfl,rfl,hm⟩:=wordR_ok h
        have:=runL_le isLow r;exact⟨by omega,by rw[List.length_cons];omega,okT_word (by decide) (by decide) hm,rfl,by dsimp only;omega,by dsimp only;rw[List.length_take,List.length_cons];omega,.inl rfl⟩
       ·obtain⟨rfl,rfl,hm⟩:=wordR_ok h
        have hs:isSignL ((c::r).take (signL (c::r)))=true:=by unfold mayW at hm;simpa using hm
        exact⟨signL_pos hs,signL_le _,okT_word (by decide) (by decide) hm,rfl,by dsimp only;omega,by dsimp only;rw[List.length_take];omega,.inl rfl⟩
theorem tokR_bad {l:Bs} {e:Int} {q:Nat} (h:tokR l= .bad q e):q≤l.length∧(e=1∨e=3):=by
 cases l with
 | nil=>injection h with h1 h2;exact⟨by omega,.inl h2.symm⟩
 | cons c r=>
   unfold tokR at h;dsimp only at h
   have hw:∀ {k:Int} {w:Bs} {x:Nat},wordR k w x= .bad q e→q≤(c::r).length∧(e=1∨e=3):=by
    intro k w x h;obtain⟨rfl,rfl⟩:=wordR_bad h;exact⟨Nat.zero_le _,.inl rfl⟩
   split at h
   ·unfold textR at h
    split at h
    ·rename_i q' hp
     injection h with h1 h2
     subst h1 h2;have hb:=parse_bd (c::r);rw[hp] at hb;exact⟨hb.1,.inl rfl⟩
    ·cases h
   ·split at h
    ·unfold numT at h
     split at h
     ·cases h
     ·rename_i h0
      injection h with h1 h2
      subst h1 h2;obtain⟨_,_,n2⟩:=numR_facts ((c::r).take (runL isDig (c::r)));refine⟨Nat.zero_le _,?_⟩
      rcases n2 with n2 | n2 | n2
      ·exact absurd n2 h0
      ·exact .inl n2
      ·exact .inr n2
    ·split at h
     ·exact hw h
     ·split at h
      ·exact hw h
      ·split at h
       ·exact hw h
       ·exact hw h
theorem goT_end {s:Bs} {k:Nat} (acc:List Tok) (h:¬ k<s.length):goT s k acc=(some acc,0,0):=by rw[goT,if_neg h]
theorem goT_bad {s:Bs} {k q:Nat} {e:Int} (acc:List Tok) (h:k<s.length) (h1:tokR (s.drop k)= .bad q e):goT s k acc=(none,k+q,e):=by rw[goT,if_pos h,h1]
theorem goT_ok {s:Bs} {k q:Nat} {t:Tok} (acc:List Tok) (h:k<s.length) (h1:tokR (s.drop k)= .ok t q):goT s k acc=goT s (behind s (k+q)) (acc++[withPl t k]):=by
 rw[goT,if_pos h,h1];exact if_pos (tokR_ok h1).1
theorem goT_ind {s:Bs} (P:Nat→List Tok→Prop) (h1:∀ k acc,¬ k<s.length→P k acc) (h2:∀ k acc q e,k<s.length→tokR (s.drop k)= .bad q e→P k acc)
  (h3:∀ k acc t q,k<s.length→tokR (s.drop k)= .ok t q→0<q→k+q≤s.length→behind s (k+q)≤s.length→P (behind s (k+q)) (acc++[withPl t k])→P k acc):∀ (n k:Nat) (acc:List Tok),s.length - k<n→P k acc
 | 0,k,acc,h=>by omega
 | n+1,k,acc,h=>by
   by_cases a:k<s.length
   ·rcases ht:tokR (s.drop k) with ⟨q,e⟩ | ⟨t,q⟩
    ·exact h2 k acc q e a ht
    ·obtain⟨q0,q1,_⟩:=tokR_ok ht
     rw[List.length_drop] at q1;have hb:=behind_ge s (k+q);exact h3 k acc t q a ht q0 (by omega) (behind_le s _ (by omega)) (goT_ind P h1 h2 h3 n _ _ (by omega))
   ·exact h1 k acc a
theorem goT_all {s:Bs} (P:Nat→List Tok→Prop) (h1:∀ k acc,¬ k<s.length→P k acc) (h2:∀ k acc q e,k<s.length→tokR (s.drop k)= .bad q e→P k acc)
  (h3:∀ k acc t q,k<s.length→tokR (s.drop k)= .ok t q→0<q→k+q≤s.length→behind s (k+q)≤s.length→P (behind s (k+q)) (acc++[withPl t k])→P k acc) (k:Nat) (acc:List Tok):P k acc:=
 goT_ind P h1 h2 h3 _ k acc (Nat.lt_succ_self _)
theorem goT_cases (s:Bs) (k:Nat) (acc:List Tok):(∃ q e,goT s k acc=(none,q,e)∧(e=1∨e=3)∧q≤s.length)∨∃ out,goT s k acc=(some out,0,0):=by
 refine goT_all (s:=s) (P:=fun k acc=>(∃ q e,goT s k acc=(none,q,e)∧(e=1∨e=3)∧q≤s.length)∨∃ out,goT s k acc=(some out,0,0)) ?_ ?_ ?_ k acc
 ·intro k acc h
  exact .inr ⟨acc,goT_end acc h⟩
 ·intro k acc q e h h1
  obtain⟨a,b⟩:=tokR_bad h1;rw[List.length_drop] at a;exact .inl ⟨k+q,e,goT_bad acc h h1,b,by omega⟩
 ·intro k acc t q h h1 _ _ _ ih
  rw[goT_ok acc h h1];exact ih
structure Read1 (N:Nat) (t:Tok):Prop where
 ok:okT t=true
 n:t.n≤9223372036854775807
 word:t.word.length≤N
 parts:t.parts=[]∨∃ l q,parse l=(some t.parts,q)∧l.length≤N
theorem goT_out (s:Bs) (k:Nat) (acc:List Tok):∀ out,goT s k acc=(some out,0,0)→(∀ t∈acc,Read1 s.length t)→(∀ t∈out,Read1 s.length t)∧out.length≤acc.length+(s.length - k):=by
 refine goT_all (s:=s) (P:=fun k acc=>∀ out,goT s k acc=(some out,0,0)→(∀ t∈acc,Read1 s.length t)→(∀ t∈out,Read1 s.length t)∧out.length≤acc.length+(s.length - k)) ?_ ?_ ?_ k acc
 ·intro k acc h out ho ha
  rw[goT_end acc h] at ho;injection ho with ho _
  injection ho with ho
  subst ho;exact⟨ha,by omega⟩
 ·intro k acc q e h h1 out ho _
  rw[goT_bad acc h h1] at ho;cases ho
 ·intro k acc t q h h1 q0 q1 _ ih out ho ha
  rw[goT_ok acc h h1] at ho;obtain⟨_,_,o1,_,o3,o4,o5⟩:=tokR_ok h1;rw[List.length_drop] at o4;have hb:=behind_ge s (k+q)
  obtain⟨i1,i2⟩:=ih out ho (fun x hx=>by
   rcases List.mem_append.1 hx with hx | hx
   ·exact ha x hx
   ·rw[List.mem_singleton] at hx
    subst hx;refine⟨o1,o3,by show t.word.length≤_;omega,?_⟩
    rcases o5 with o5 | ⟨q',o5⟩
    ·exact .inl o5
    ·exact .inr ⟨_,q',o5,by rw[List.length_drop];omega⟩)
  refine⟨i1,?_⟩;rw[List.length_append] at i2;simp at i2;omega
theorem scan_cases (s:Bs):(∃ q e,scan s=(none,q,e)∧(e=1∨e=2∨e=3)∧(s.length≤2000→e≠2))∨(∃ out,scan s=(some out,0,0)∧(∀ t∈out,Read1 s.length t)∧out.length≤s.length∧s.length≤2000):=by
 unfold scan;by_cases h:2000<s.length
 ·rw[if_pos h];exact .inl ⟨_,_,rfl,.inr (.inl rfl),fun h=>by omega⟩
 ·rw[if_neg h]
  rcases goT_cases s (behind s 0) [] with ⟨q,e,h1,h2,_⟩ | ⟨out,h1⟩
  ·exact .inl ⟨q,e,h1,by omega,fun _=>by omega⟩
  ·obtain⟨a,b⟩:=goT_out s _ _ out h1 (by simp)
   simp at b;exact .inr ⟨out,h1,a,by omega,by omega⟩
theorem runL_at (p:UInt8→Bool) (s:ByteArray) (k:Nat) (hk:k<s.size):runL p (s.data.toList.drop k)=if p s[k] then runL p (s.data.toList.drop (k+1))+1 else 0:=by rw[drop_at s k hk,runL_cons]
theorem runL_past (p:UInt8→Bool) (s:ByteArray) (k:Nat) (hk:¬ k<s.size):runL p (s.data.toList.drop k)=0:=by rw[drop_end s k hk];rfl
theorem not_list {s:ByteArray} {l:Bs} (h:¬ s.data.toList=l):(s.toList==l)=false:=by rw[toList_data];simpa using h
theorem gap_at_bl (s:ByteArray) (j:Nat) (h:j<s.size) (c:isBl s[j]=true):gap false (s.data.toList.drop j)=gap false (s.data.toList.drop (j+1))+1:=by rw[drop_at s j h,gap_false,if_pos c]
theorem gap_at_hash (s:ByteArray) (j:Nat) (h:j<s.size) (c:s[j]=35):gap false (s.data.toList.drop j)=runL notNl (s.data.toList.drop j)+gap false (s.data.toList.drop (j+runL notNl (s.data.toList.drop j)))∧0<runL notNl (s.data.toList.drop j):=by
 have e:s.data.toList.drop j=35::s.data.toList.drop (j+1):=by rw[drop_at s j h,c]
 have hg:=gap_hash (s.data.toList.drop (j+1));rw[←e,List.drop_drop] at hg;refine⟨hg,?_⟩;rw[e,runL_cons,if_pos (by decide)];omega
theorem gap_at_no (s:ByteArray) (j:Nat) (h:j<s.size) (c:¬ isBl s[j]=true) (d:s[j]≠35):gap false (s.data.toList.drop j)=0:=by rw[drop_at s j h,gap_false,if_neg c,if_neg d]
theorem gap_at_end (s:ByteArray) (j:Nat) (h:¬ j<s.size):gap false (s.data.toList.drop j)=0:=by rw[drop_end s j h];rfl
theorem ext_data (s:ByteArray) (a n:Nat):(s.extract a (a+n)).data.toList=(s.data.toList.drop a).take n:=by rw[ba_take]
theorem bcell {W w1:World} (hb:Below W.heap.size W w1):(∀ b o,b<W.heap.size→w1.cell? ⟨b,o,none⟩=W.cell? ⟨b,o,none⟩)∧(∀ b o,b<W.heap.size→w1.frozen? ⟨b,o,none⟩=W.frozen? ⟨b,o,none⟩):=
 ⟨fun b o h=>hb.cell (p:=⟨b,o,none⟩) h,fun b o h=>hb.frozen (p:=⟨b,o,none⟩) h⟩
theorem size_le {w w1:World} {o:Obj} (hb:Below (w.alloc o).heap.size (w.alloc o) w1):w.heap.size+1≤w1.heap.size:=by
 have:=hb.size;simp at this;omega
theorem own_set {w:World} {B T s n:Nat} {v:Value} {xs:List Value} (h:w.ownsRow B T s v n xs) {p:Addr} (hlt:p.block<B) (u:Value):(w.setCell p u).ownsRow B T s v n xs:=by
 refine h.kept (w':=w.setCell p u) (row:=some p.block) ⟨rfl,rfl,rfl,by simp,fun k _ hk=>Below.heap_setCell w p u k (fun e=>hk (by rw[e]))⟩ ?_
 rcases hv:v.ownBlock with _ | b
 ·exact .inl rfl
 ·right
  have:=(h.lt b hv).1;intro e;injection e with e
  omega
abbrev put5 (w:World) (b:Nat) (u0 u1 u2 u3 u4:Value):World:=((((w.setCell ⟨b,0,none⟩ u0).setCell ⟨b,1,none⟩ u1).setCell ⟨b,2,none⟩ u2).setCell ⟨b,3,none⟩ u3).setCell ⟨b,4,none⟩ u4
theorem box5_below {w w1:World} {o:Obj} (hb:Below (w.alloc o).heap.size (w.alloc o) w1) (u0 u1 u2 u3 u4:Value):Below w.heap.size w (put5 w1 w.heap.size u0 u1 u2 u3 u4):=by
 have e:(w.alloc o).heap.size=w.heap.size+1:=by simp
 exact((((((((Below.refl _ _).alloc (Nat.le_refl _) o).trans (hb.mono (by omega))).setCell (Nat.le_refl _) u0).setCell (Nat.le_refl _) u1).setCell (Nat.le_refl _) u2).setCell (Nat.le_refl _) u3).setCell (Nat.le_refl _) u4)
theorem box5_own {w w1:World} {o:Obj} {T s n:Nat} {v:Value} {xs:List Value} (h:w1.ownsRow (w.alloc o).heap.size T s v n xs) (u0 u1 u2 u3 u4:Value):(put5 w1 w.heap.size u0 u1 u2 u3 u4).ownsRow w.heap.size T s v n xs:=by
 have e:(w.alloc o).heap.size=w.heap.size+1:=by simp
 have hlt:∀ j,(⟨w.heap.size,j,none⟩:Addr).block<(w.alloc o).heap.size:=fun j=>by rw[e];exact Nat.lt_succ_self _
 exact World.ownsRow.mono (own_set (own_set (own_set (own_set (own_set h (hlt 0) u0) (hlt 1) u1) (hlt 2) u2) (hlt 3) u3) (hlt 4) u4) (by omega)
theorem dig_ne45 (c:UInt8) (h:isDig c=true):¬ c=45:=by rintro rfl;revert h;decide
theorem numR_spec (l:Bs) (h:l.all isDig=true) (h0:l≠[]):specL l (numR l).1 (numR l).2:=by
 cases l with
 | nil=>exact absurd rfl h0
 | cons c r=>
   have hc:¬ c=45:=dig_ne45 c (by rw[List.all_cons,Bool.and_eq_true] at h;exact h.1);have hd:(c::r).all digB=true:=by rw[←isD_fun];exact h
   have hf:formL (c::r)=if c=48 then r.isEmpty else true:=by
    rw[form_other c r hc];unfold formD;dsimp only
    split
    ·simp
    ·exact h
   have h48n:¬ c=48→numR (c::r)=if valN (c::r)<9223372036854775808 then ((valN (c::r):Int),0) else (0,3):=fun h=>by
    unfold numR;rw[if_neg (by rintro⟨e,_⟩;injection e with e;exact h e)]
   unfold specL;by_cases h48:c=48
   ·rw[if_pos h48] at hf
    cases r with
    | nil=>
      subst h48;have hn:numR [48]=(0,0):=by decide
      rw[hf,neg_other _ _ hc,dig_other _ _ hc,hn];unfold specD;rw[if_pos (show ([]:Bs).isEmpty=true from rfl),if_pos hd];exact⟨0,rfl,by decide⟩
    | cons d r=>
      have hn:numR (c::d::r)=(0,1):=by
       unfold numR;rw[if_pos ⟨by rw[h48];rfl,by simp⟩]
      rw[hf,hn,if_neg (by simp)];exact⟨rfl,rfl⟩
   ·rw[if_neg h48] at hf
    rw[hf,if_pos rfl,neg_other c r hc,dig_other c r hc,h48n h48];unfold specD;rw[if_pos hd];refine⟨(valN (c::r):Int),rfl,?_⟩;by_cases hv:valN (c::r)<9223372036854775808
    ·rw[if_pos hv,if_pos (by omega)];exact⟨rfl,rfl⟩
    ·rw[if_neg hv,if_neg (by omega)];exact⟨rfl,rfl⟩
def tokV (t:Tok) (v:Value):Value:= .agg #[.int .i64 t.kind,.string ⟨t.word.toArray⟩,.int .i64 t.n,v,.int .i64 t.pl]
abbrev OwnP (B:Nat) (w:World) (v:Value) (ps:List Pt):Prop:=w.ownsRow B 88 2 v ps.length (cellsP ps)
def posR (k:Nat) (R:TR):Nat:=match R with | .bad q _=>k+q | .ok _ q=>k+q
def errR (R:TR):Int:=match R with | .bad _ e=>e | .ok _ _=>0
theorem ext_eq (s:ByteArray) (a n:Nat):s.extract a (a+n)=⟨((s.data.toList.drop a).take n).toArray⟩:=ba_take s a n
theorem numT_cases (l:Bs):numT l=if (numR (l.take (runL isDig l))).2=0 then .ok ⟨2,[],(numR (l.take (runL isDig l))).1,[],0⟩ (runL isDig l) else .bad 0 (numR (l.take (runL isDig l))).2:=rfl
theorem textR_cases (l:Bs):textR l=match parse l with | (none,q)=> .bad q 1 | (some ps,q)=> .ok ⟨3,[],0,ps,0⟩ q:=rfl
theorem ext_tail (s:ByteArray) (k:Nat):(s.extract k s.size).data.toList=s.data.toList.drop k:=by
 by_cases h:k≤s.size
 ·have:=ext_data s k (s.size - k)
  rw[show k+(s.size - k)=s.size by omega] at this;rw[this,List.take_of_length_le (by rw[List.length_drop,len_data];omega)]
 ·rw[drop_end s k (by omega)]
  apply List.eq_nil_of_length_eq_zero;rw[len_data,ByteArray.size_extract];omega
def textA (R:Option (List Pt) × Nat):TR:=match R with | (none,q)=> .bad q 1 | (some ps,q)=> .ok ⟨3,[],0,ps,0⟩ q
theorem head_low (c:UInt8) (h:isLow c=true):c≠34∧isDig c=false∧c≠36∧c≠45:=by
 have hx:∀ c:UInt8,isLow c=true→c≠34∧isDig c=false∧c≠36∧c≠45:=all256 _ (by decide+kernel);exact hx c h
abbrev Tv:=Tok × Value
def cellsT (l:List Tv):List Value:=l.flatMap fun x=>[.int .i64 x.1.kind,.string ⟨x.1.word.toArray⟩,.int .i64 x.1.n,x.2,.int .i64 x.1.pl]
theorem cellsT_append (a b:List Tv):cellsT (a++b)=cellsT a++cellsT b:=by simp[cellsT]
theorem cellsT_cons (p:Tv) (r:List Tv):cellsT (p::r)= .int .i64 p.1.kind:: .string ⟨p.1.word.toArray⟩:: .int .i64 p.1.n::p.2:: .int .i64 p.1.pl::cellsT r:=rfl
theorem infoT:(Tryz.prog.info? 105).map (fun i=>(i.zero,i.size,i.bytes))=some (some (.agg #[.int .i64 0,.string ⟨#[]⟩,.int .i64 0,.slice none 0 0,.int .i64 0]),5,64):=by kernel_rfl
theorem new_cellsT (w:World) (o:Obj) (T:TypeId) (cs:Array Value) (j:Nat) (u:Value) (h:cs.toList[j]?=some u):((w.alloc o).alloc (.cells cs T)).cell? ((⟨w.heap.size+1,0,none⟩:Addr).add j)=some u:=by
 have e:(w.alloc o).heap.size=w.heap.size+1:=by simp
 rw[←e];exact new_cells (w.alloc o) T cs j u h
theorem five_one (a b c:Int) (W:ByteArray) (A:Option Addr) (n m:Nat):∀ u∈[Value.int .i64 a,.string W,.int .i64 b,.slice A n m,.int .i64 c],u.oneCell'=true:=by
 intro u hu;simp only[List.mem_cons,List.not_mem_nil,or_false] at hu
 rcases hu with rfl | rfl | rfl | rfl | rfl <;> rfl
structure Tks (B:Nat) (w0 w:World) (v:Value) (q:List Tv):Prop where
 row:w.ownsRow B 105 5 v q.length (cellsT q)
 parts:∀ x∈q,OwnP B w x.2 x.1.parts
 below:Below B w0 w
 size:B≤w.heap.size
theorem Tks.nil (w:World):Tks w.heap.size w w (.slice none 0 0) []:=⟨World.ownsRow_nil _ _ _ _,by simp,Below.refl _ _,Nat.le_refl _⟩
theorem Tks.none_ {B:Nat} {w0 w:World} {v:Value} {q:List Tv} (h:Tks B w0 w v q):Tks B w0 w (.slice none 0 0) []:=⟨World.ownsRow_nil _ _ _ _,by simp,h.below,h.size⟩
theorem Tks.alloc {B:Nat} {w0 w:World} {v:Value} {q:List Tv} (h:Tks B w0 w v q) (o:Obj):Tks B w0 (w.alloc o) v q:=
 ⟨h.row.alloc o,fun x hx=>(h.parts x hx).alloc o,h.below.alloc h.size o,by simp;have:=h.size;omega⟩
theorem Tks.beyond {B:Nat} {w0 w w':World} {v:Value} {q:List Tv} (h:Tks B w0 w v q) (hb:Below w.heap.size w w'):Tks B w0 w' v q:=
 ⟨below_kept h.row hb,fun x hx=>below_kept (h.parts x hx) hb,h.below.trans (hb.mono h.size),Nat.le_trans h.size hb.size⟩
theorem Tks.token {B:Nat} {w0 w w':World} {v v' u:Value} {q:List Tv} {g:Tok} (h:Tks B w0 w v q) (hu:OwnP B w u g.parts)
  (ho:w'.ownsRow B 105 5 v' (q.length+1) (cellsT q++[.int .i64 g.kind,.string ⟨g.word.toArray⟩,.int .i64 g.n,u,.int .i64 g.pl])) (hg:w.grownBy w' v.ownBlock):Tks B w0 w' v' (q++[(g,u)]):=by
 refine⟨by rw[cellsT_append,List.length_append];exact ho,fun x hx=>?_,h.below.grown hg h.size (fun k hk=>(h.row.lt k hk).1),Nat.le_trans h.size hg.size⟩
 rcases List.mem_append.1 hx with hx | hx
 ·exact(h.parts x hx).kept hg (own_ne (h.parts x hx) h.row (by decide))
 ·rw[List.mem_singleton] at hx
  subst hx;exact hu.kept hg (own_ne hu h.row (by decide))
def PostT (w0:World) (R:Option (List Tok) × Nat × Int) (e:Ending) (w':World):Prop:=
 ∃ (v:Value) (l:List Tv),e= .returned (.tuple #[v,.int .i64 R.2.1,.int .i64 R.2.2])∧Tks w0.heap.size w0 w' v l∧l.map (·.1)=R.1.getD []
structure FitT (t:Tok):Prop where
 word:t.word.length≤100000
 n: -9223372036854775808≤t.n∧t.n≤9223372036854775807
 parts:t.parts.length≤100000
 names:∀ p∈t.parts,p.1.length≤100000
 texts:∀ p∈t.parts,p.2.length≤100000
 print:(print t.parts).length≤100000
theorem add_oneT (ad:Addr) (m i:Nat) (h:0<i):(⟨(ad.add m).block,(ad.add m).off+i,none⟩:Addr)=ad.add (m+i):=by
 unfold Addr.add;by_cases hk:m=0
 ·subst hk
  have:¬ i=0:=by omega
  simp[this]
 ·have:¬ m+i=0:=by omega
  simp[hk,Nat.add_assoc]
def At5 (w:World) (a:Addr) (t:Tok) (A:Option Addr) (c:Nat):Prop:=
 w.cell? a=some (.int .i64 t.kind)∧w.cell? ⟨a.block,a.off+1,none⟩=some (.string ⟨t.word.toArray⟩)∧w.cell? ⟨a.block,a.off+2,none⟩=some (.int .i64 t.n)∧w.cell? ⟨a.block,a.off+3,none⟩=some (.slice A t.parts.length c)∧w.cell? ⟨a.block,a.off+4,none⟩=some (.int .i64 t.pl)
def RdT (B:Nat) (w:World) (A:Option Addr) (n:Nat) (ts:List Tok):Prop:=n=ts.length∧(0<n→∃ ad,A=some ad∧ad.block<B∧∀ i t,ts[i]?=some t→
 ∃ A' c',At5 w (ad.add (i * 5)) t A' c'∧Rd B w A' t.parts.length t.parts)
theorem RdA.up {B B':Nat} {w:World} {ad:Addr} {ps:List Pt} (h:RdA B w ad ps) (hB:B≤B'):RdA B' w ad ps:=⟨Nat.lt_of_lt_of_le h.1 hB,h.2⟩
theorem Rd.up {B B':Nat} {w:World} {A:Option Addr} {n:Nat} {ps:List Pt} (h:Rd B w A n ps) (hB:B≤B'):Rd B' w A n ps:=
 ⟨h.1,fun hn=>by obtain⟨ad,e,hr⟩:=h.2 hn;exact⟨ad,e,hr.up hB⟩⟩
theorem At5.keep {B:Nat} {w w':World} {a:Addr} {t:Tok} {A:Option Addr} {c:Nat} (h:At5 w a t A c) (hB:a.block<B) (hb:Below B w w'):At5 w' a t A c:=
 ⟨(hb.cell hB).trans h.1,(hb.cell (p:=⟨a.block,a.off+1,none⟩) hB).trans h.2.1,(hb.cell (p:=⟨a.block,a.off+2,none⟩) hB).trans h.2.2.1,(hb.cell (p:=⟨a.block,a.off+3,none⟩) hB).trans h.2.2.2.1,(hb.cell (p:=⟨a.block,a.off+4,none⟩) hB).trans h.2.2.2.2⟩
theorem RdT.keep {B:Nat} {w w':World} {A:Option Addr} {n:Nat} {ts:List Tok} (h:RdT B w A n ts) (hb:Below B w w'):RdT B w' A n ts:=by
 refine⟨h.1,fun hn=>?_⟩;obtain⟨ad,e,hlt,hc⟩:=h.2 hn;refine⟨ad,e,hlt,fun i t ht=>?_⟩;obtain⟨A',c',h5,hr⟩:=hc i t ht;exact⟨A',c',h5.keep (by rw[block_of_add];exact hlt) hb,hr.keep hb⟩
theorem RdT.up {B B':Nat} {w:World} {A:Option Addr} {n:Nat} {ts:List Tok} (h:RdT B w A n ts) (hB:B≤B'):RdT B' w A n ts:=by
 refine⟨h.1,fun hn=>?_⟩;obtain⟨ad,e,hlt,hc⟩:=h.2 hn;refine⟨ad,e,by omega,fun i t ht=>?_⟩;obtain⟨A',c',h5,hr⟩:=hc i t ht;exact⟨A',c',h5,hr.up hB⟩
theorem RdT.at_ {B:Nat} {w:World} {A:Option Addr} {n:Nat} {ts:List Tok} {k:Nat} {t:Tok} (h:RdT B w A n ts) (hk:ts[k]?=some t):
  ∃ ad A' c',A=some ad∧At5 w (ad.add (k * 5)) t A' c'∧Rd B w A' t.parts.length t.parts:=by
 obtain⟨ad,e,_,hc⟩:=h.2 (by have:=(List.getElem?_eq_some_iff.1 hk).1;have:=h.1;omega);obtain⟨A',c',h5,hr⟩:=hc k t hk;exact⟨ad,A',c',e,h5,hr⟩
theorem cellsT_at:∀ (l:List Tv) (k:Nat) (x:Tv),l[k]?=some x→(cellsT l)[k * 5]?=some (.int .i64 x.1.kind)∧(cellsT l)[k * 5+1]?=some (.string ⟨x.1.word.toArray⟩)∧(cellsT l)[k * 5+2]?=some (.int .i64 x.1.n)∧(cellsT l)[k * 5+3]?=some x.2∧(cellsT l)[k * 5+4]?=some (.int .i64 x.1.pl)
 | [],k,p,h=>by simp at h
 | q::r,0,p,h=>by
   injection h with h;subst h;rw[cellsT_cons];simp
 | q::r,k+1,p,h=>by
   have ih:=cellsT_at r k p (by simpa using h);rw[cellsT_cons,show (k+1) * 5=k * 5+5 by omega];simpa using ih
theorem rdt_of_own {w0 w:World} {B:Nat} {v:Value} {l:List Tv} (h:Tks B w0 w v l):∃ A c,v= .slice A l.length c∧RdT w.heap.size w A l.length (l.map (·.1)):=by
 rcases h.row.2 with ⟨rfl,h0⟩ | ⟨g,cap,cur,rfl,hb,hg,_⟩
 ·exact⟨none,0,by rw[h0],by simp,fun hn=>by omega⟩
 ·refine⟨_,_,rfl,by simp,fun hn=>⟨_,rfl,(Array.getElem?_eq_some_iff.1 hg).1,fun i gl hi=>?_⟩⟩
  rw[List.getElem?_map,Option.map_eq_some_iff] at hi;obtain⟨x,hx,rfl⟩:=hi;obtain⟨c0,c1,c2,c3,c4⟩:=cellsT_at l i x hx;have hs:=h.parts x (List.mem_of_getElem? hx);obtain⟨A',c',e,hr⟩:=rd_of_own (ps:=x.1.parts) hs;refine⟨A',c',⟨h.row.cells (g:=g) rfl _ _ c0,?_,?_,?_,?_⟩,hr⟩
  ·rw[add_oneT _ _ _ (by omega)];exact h.row.cells (g:=g) rfl _ _ c1
  ·rw[add_oneT _ _ _ (by omega)];exact h.row.cells (g:=g) rfl _ _ c2
  ·rw[add_oneT _ _ _ (by omega),h.row.cells (g:=g) rfl _ _ c3,e]
  ·rw[add_oneT _ _ _ (by omega)];exact h.row.cells (g:=g) rfl _ _ c4
theorem tsmall_no (c:UInt8) (w:World):Calls Tryz.prog 56 #[.int .u8 c.toNat,.bool false] w fun e w'=>e= .returned (.bool (isLow c))∧w=w':=by
 obtain⟨n,hn⟩:∃ n:Int,n=c.toNat:=⟨_,rfl⟩;have e:isLow c=decide (97≤n∧n≤122):=by rw[hn];rfl
 rw[e,←hn];clear e hn;by_cases h1:97≤n <;> by_cases h2:n≤122
 all_goals
  go_enter Tryz.func56,Tryz.ntmps56;go_wp2;go_ret;exact⟨ret_bool (by simp[h1,h2]),rfl⟩
theorem tsmall_yes (c:UInt8) (w:World):Calls Tryz.prog 56 #[.int .u8 c.toNat,.bool true] w fun e w'=>e= .returned (.bool (isIn c))∧w=w':=by
 obtain⟨n,hn⟩:∃ n:Int,n=c.toNat:=⟨_,rfl⟩;have e:isIn c=(decide (97≤n∧n≤122) || decide (48≤n∧n≤57) || decide (n=95)):=by rw[hn];rfl
 rw[e,←hn];clear e hn;obtain⟨v,hv⟩:∃ v,v=(decide (97≤n∧n≤122) || decide (48≤n∧n≤57) || decide (n=95)):=⟨_,rfl⟩;rw[←hv];have HV:=Lib.hid hv;clear hv;by_cases h0:n=95
 ·subst h0
  go_enter Tryz.func56,Tryz.ntmps56;go_wp2;go_ret;exact⟨ret_bool (by rw[HV.out];rfl),rfl⟩
 ·have hb:(n==95)=false:=by simpa using h0
  by_cases h1:97≤n
  ·have h3:48≤n:=by omega
   have h4:¬ n≤57:=by omega
   by_cases h2:n≤122
   all_goals
    go_enter Tryz.func56,Tryz.ntmps56;go_wp2;go_ret;exact⟨ret_bool (by rw[HV.out];simp;omega),rfl⟩
  ·by_cases h3:48≤n <;> by_cases h4:n≤57
   all_goals
    go_enter Tryz.func56,Tryz.ntmps56;go_wp2;go_ret;exact⟨ret_bool (by rw[HV.out];simp;omega),rfl⟩
theorem rrun_in (s:ByteArray) (k:Nat) (hk:k≤s.size) (hs:s.size≤1000000) (w:World):
  Calls Tryz.prog 57 #[.string s,.int .i64 k,.bool false] w fun e w'=>e= .returned (.int .i64 ((k+runL isIn (s.data.toList.drop k):Nat):Int))∧w=w':=by
 obtain⟨N,hN⟩:∃ N,N=k+runL isIn (s.data.toList.drop k):=⟨_,rfl⟩;rw[←hN];have HN:=Lib.hid hN;clear hN;go_enter Tryz.func57,Tryz.ntmps57;go_wp2
 go_loop [1] (fun a=>∃ j:Nat,j≤s.size∧a= .int .i64 j∧N=j+runL isIn (s.data.toList.drop j)) (fun a=>s.size - (intOf a).toNat)
 case atStart=>exact⟨k,hk,rfl,HN.out⟩
 case round=>
  obtain⟨j,hj,rfl,hn⟩:=hrel;have HJ:=Lib.hid hn;clear hn;by_cases a:j<s.size
  ·have K:=Lib.hid fun w=>tsmall_yes s[j] w
   have hr:=runL_at isIn s j a;by_cases c:isIn s[j]=true
   ·rw[c] at K
    have HX:Hid (N=(j+1)+runL isIn (s.data.toList.drop (j+1))):=by apply Lib.hid;rw[HJ.out,hr,if_pos c];omega
    clear hr c;go_wp2_with (go_at_call 56;((with_reducible refine(K.out _).mono ?_));rintro e w' ⟨rfl,rfl⟩)
    go_round
    case rel=>exact⟨j+1,by omega,by go_num,HX.out⟩
    case measure=>simp[intOf];omega
   ·rw[Bool.eq_false_iff.2 c] at K
    have HX:Hid (j=N):=by apply Lib.hid;rw[HJ.out,hr,if_neg c];omega
    clear hr c;go_wp2_with (go_at_call 56;((with_reducible refine(K.out _).mono ?_));rintro e w' ⟨rfl,rfl⟩);go_ret;exact⟨ret_int (by rw[HX.out]),rfl⟩
  ·have HX:Hid (j=N):=by apply Lib.hid;rw[HJ.out,runL_past _ _ _ a];omega
   go_wp2;go_ret;exact⟨ret_int (by rw[HX.out]),rfl⟩
theorem rrun_dig (s:ByteArray) (k:Nat) (hk:k≤s.size) (hs:s.size≤1000000) (w:World):
  Calls Tryz.prog 57 #[.string s,.int .i64 k,.bool true] w fun e w'=>e= .returned (.int .i64 ((k+runL isDig (s.data.toList.drop k):Nat):Int))∧w=w':=by
 obtain⟨N,hN⟩:∃ N,N=k+runL isDig (s.data.toList.drop k):=⟨_,rfl⟩;rw[←hN];have HN:=Lib.hid hN;clear hN;go_enter Tryz.func57,Tryz.ntmps57;go_wp2
 go_loop [1] (fun a=>∃ j:Nat,j≤s.size∧a= .int .i64 j∧N=j+runL isDig (s.data.toList.drop j)) (fun a=>s.size - (intOf a).toNat)
 case atStart=>exact⟨k,hk,rfl,HN.out⟩
 case round=>
  obtain⟨j,hj,rfl,hn⟩:=hrel;have HJ:=Lib.hid hn;clear hn;by_cases a:j<s.size
  ·have hr:=runL_at isDig s j a
   by_cases c:isDig s[j]=true
   ·have HX:Hid (N=(j+1)+runL isDig (s.data.toList.drop (j+1))):=by apply Lib.hid;rw[HJ.out,hr,if_pos c];omega
    have hc:48≤(s[j].toNat:Int)∧(s[j].toNat:Int)≤57:=by unfold isDig at c;exact of_decide_eq_true c
    obtain⟨c1,c2⟩:=hc;clear hr c;go_wp2
    go_round
    case rel=>exact⟨j+1,by omega,by go_num,HX.out⟩
    case measure=>simp[intOf];omega
   ·have HX:Hid (j=N):=by apply Lib.hid;rw[HJ.out,hr,if_neg c];omega
    have hc:(s[j].toNat:Int)<48∨(48≤(s[j].toNat:Int)∧57<(s[j].toNat:Int)):=by
     unfold isDig at c;have:=of_decide_eq_false (Bool.eq_false_iff.2 c);omega
    clear hr c
    rcases hc with c1 | ⟨c1,c2⟩
    all_goals
     go_wp2;go_ret;exact⟨ret_int (by rw[HX.out]),rfl⟩
  ·have HX:Hid (j=N):=by apply Lib.hid;rw[HJ.out,runL_past _ _ _ a];omega
   go_wp2;go_ret;exact⟨ret_int (by rw[HX.out]),rfl⟩
theorem letters_any (s:ByteArray) (k:Nat) (hk:k≤s.size) (hs:s.size≤1000000) (w:World):
  Calls Tryz.prog 61 #[.string s,.int .i64 k] w fun e w'=>e= .returned (.int .i64 ((k+runL isLow (s.data.toList.drop k):Nat):Int))∧w=w':=by
 obtain⟨N,hN⟩:∃ N,N=k+runL isLow (s.data.toList.drop k):=⟨_,rfl⟩;rw[←hN];have HN:=Lib.hid hN;clear hN;go_enter Tryz.func61,Tryz.ntmps61;go_wp2
 go_loop [1] (fun a=>∃ j:Nat,j≤s.size∧a= .int .i64 j∧N=j+runL isLow (s.data.toList.drop j)) (fun a=>s.size - (intOf a).toNat)
 case atStart=>exact⟨k,hk,rfl,HN.out⟩
 case round=>
  obtain⟨j,hj,rfl,hn⟩:=hrel;have HJ:=Lib.hid hn;clear hn;by_cases a:j<s.size
  ·have K:=Lib.hid fun w=>tsmall_no s[j] w
   have hr:=runL_at isLow s j a;by_cases c:isLow s[j]=true
   ·rw[c] at K
    have HX:Hid (N=(j+1)+runL isLow (s.data.toList.drop (j+1))):=by apply Lib.hid;rw[HJ.out,hr,if_pos c];omega
    clear hr c;go_wp2_with (go_at_call 56;((with_reducible refine(K.out _).mono ?_));rintro e w' ⟨rfl,rfl⟩)
    go_round
    case rel=>exact⟨j+1,by omega,by go_num,HX.out⟩
    case measure=>simp[intOf];omega
   ·rw[Bool.eq_false_iff.2 c] at K
    have HX:Hid (j=N):=by apply Lib.hid;rw[HJ.out,hr,if_neg c];omega
    clear hr c;go_wp2_with (go_at_call 56;((with_reducible refine(K.out _).mono ?_));rintro e w' ⟨rfl,rfl⟩);go_ret;exact⟨ret_int (by rw[HX.out]),rfl⟩
  ·have HX:Hid (j=N):=by apply Lib.hid;rw[HJ.out,runL_past _ _ _ a];omega
   go_wp2;go_ret;exact⟨ret_int (by rw[HX.out]),rfl⟩
theorem rflag_any (s:ByteArray) (w:World):Calls Tryz.prog 62 #[.string s] w fun e w'=>e= .returned (.bool (isFlagL s.data.toList))∧w=w':=by
 by_cases h:isFlagL s.data.toList=true
 ·rw[h]
  unfold isFlagL at h
  rcases of_decide_eq_true h with h | h | h | h
  all_goals
   obtain rfl:=ba_eq s _ h;clear h;go_enter Tryz.func62,Tryz.ntmps62;go_wp2;go_ret;exact⟨rfl,rfl⟩
 ·have h:=Bool.eq_false_iff.2 h
  rw[h];unfold isFlagL at h;have h:=of_decide_eq_false h;have n0:=not_list (fun e=>h (.inl e));have n1:=not_list (fun e=>h (.inr (.inl e)));have n2:=not_list (fun e=>h (.inr (.inr (.inl e))));have n3:=not_list (fun e=>h (.inr (.inr (.inr e))));clear h;go_enter Tryz.func62,Tryz.ntmps62;go_wp2;go_ret;exact⟨rfl,rfl⟩
def endO (k:Nat) (R:TR):Nat:=match R with | .bad _ _=>0 | .ok _ q=>k+q
def badO (k:Nat) (R:TR):Nat:=match R with | .bad q _=>k+q | .ok _ _=>0
def PostO (w0:World) (k:Nat) (R:TR) (e:Ending) (w':World):Prop:=
 ∃ (t:Tok) (v:Value),e= .returned (.tuple #[tokV t v,.int .i64 (endO k R),.int .i64 (badO k R),.int .i64 (errR R)])∧OwnP w0.heap.size w' v t.parts∧Below w0.heap.size w0 w'∧∀ t' q,R= .ok t' q→withPl t' k=t
theorem isWordL_run (l:Bs) (h:lowHead l=true):isWordL (l.take (runL isIn l))=decide (runL isIn l≤14):=by
 cases l with
 | nil=>cases h
 | cons c r=>
   have hc:isLow c=true:=h;have hi:=low_in c hc;have hall:=runL_all isIn r;have hle:=runL_le isIn r;rw[runL_cons,if_pos hi,List.take_succ_cons];show (isLow c && (r.take (runL isIn r)).all isIn && decide ((r.take (runL isIn r)).length≤13))=_;rw[hc,hall,List.length_take,Nat.min_eq_left hle,Bool.true_and,Bool.true_and];rw[Bool.eq_iff_iff,decide_eq_true_iff,decide_eq_true_iff];omega
theorem lowHead_run (l:Bs):lowHead l=decide (0<runL isLow l):=by
 cases l with
 | nil=>rfl
 | cons c r=>
   rw[runL_cons];show isLow c=_;by_cases h:isLow c=true
   ·rw[h,if_pos rfl];simp
   ·rw[Bool.eq_false_iff.2 h,if_neg (by decide)];rfl
theorem mayW_1 (w:Bs):mayW 1 w=isWordL w:=rfl
theorem mayW_4 (w:Bs):mayW 4 w=isSignL w:=by unfold mayW;rw[if_neg (by decide),if_pos rfl]
theorem mayW_5 (w:Bs):mayW 5 w=isFlagL w:=by unfold mayW;rw[if_neg (by decide),if_neg (by decide),if_pos rfl]
theorem mayW_6 (w:Bs):mayW 6 w=isName w:=by unfold mayW;rw[if_neg (by decide),if_neg (by decide),if_neg (by decide),if_pos rfl]
theorem postO_bad {w w':World} {k:Nat} (h:Below w.heap.size w w') (x:Int):PostO w k (.bad 0 x) (.returned (.tuple #[.agg #[.int .i64 0,.string ⟨#[]⟩,.int .i64 0,.slice none 0 0,.int .i64 0],.int .i64 0,.int .i64 k,.int .i64 x])) w':=
 ⟨⟨0,[],0,[],0⟩,.slice none 0 0,rfl,World.ownsRow_nil _ _ _ _,h,fun t' q h=>by cases h⟩
theorem postO_word {w w':World} {s:ByteArray} {k f n q p:Nat} {kd:Int} {E:ByteArray} (hE:E=s.extract f (f+n)) (h:Below w.heap.size w w') (hp:p=k+q):PostO w k (.ok ⟨kd,(s.data.toList.drop f).take n,0,[],0⟩ q) (.returned (.tuple #[.agg #[.int .i64 kd,.string E,.int .i64 0,.slice none 0 0,.int .i64 k],.int .i64 p,.int .i64 0,.int .i64 0])) w':=by
 rw[hE,ext_eq,hp];exact⟨⟨kd,(s.data.toList.drop f).take n,0,[],k⟩,.slice none 0 0,rfl,World.ownsRow_nil _ _ _ _,h,fun t' q h=>by injection h with h _;subst h;rfl⟩
theorem one_word (s:ByteArray) (k:Nat) (hk:k<s.size) (hs:s.size≤4000) (hl:isLow s[k]=true) (w:World):
  Calls Tryz.prog 40 #[.string s,.int .i64 k] w (PostO w k (tokR (s.data.toList.drop k))):=by
 obtain⟨h34,hd,h36,h45⟩:=head_low _ hl;obtain⟨R,hR⟩:∃ R,R=tokR (s.data.toList.drop k):=⟨_,rfl⟩;rw[←hR]
 replace hR:R=wordR 1 ((s.data.toList.drop k).take (runL isIn (s.data.toList.drop k))) (runL isIn (s.data.toList.drop k)):=by
  rw[hR]
  conv=>lhs;rw[drop_at s k hk]
  unfold tokR;dsimp only;rw[if_neg h34,if_neg (by rw[hd];decide),if_pos hl,←drop_at s k hk]
 have hlow:lowHead (s.data.toList.drop k)=true:=by rw[drop_at s k hk];exact hl
 have hw:=isWordL_run _ hlow;have KR:=Lib.hid fun w=>rrun_in s k (by omega) (by omega) w
 have hrun:=runL_le isIn (s.data.toList.drop k);rw[List.length_drop,len_data] at hrun;generalize runL isIn (s.data.toList.drop k)=n at KR hrun hR hw;have KL:=Lib.hid fun w=>tsmall_no s[k] w
 rw[hl] at KL;obtain⟨q,hq⟩:∃ q,q=k+n:=⟨_,rfl⟩;unfold wordR at hR;rw[mayW_1,hw] at hR;have hE:s.extract k q=s.extract k (k+n):=by rw[hq]
 have HE:=Lib.hid hE;have HQ:=Lib.hid hq;have hqn:(q:Int) - k=n:=by omega
 have hqk:k≤q:=by omega
 have hqs:q≤s.size:=by omega
 rw[←hq] at KR;by_cases h14:n≤14
 ·rw[decide_eq_true h14,if_pos rfl] at hR
  have HR:=Lib.hid hR;have h14':¬ (14:Int)<(q:Int) - k:=by omega
  clear hR h34 hd hl h36 h45 hrun hq hw hlow hE hqn;go_enter Tryz.func40,Tryz.ntmps40;go_wp2_with (first | (go_at_call 56;((with_reducible refine(KL.out _).mono ?_));rintro e w' ⟨rfl,rfl⟩) | (go_at_call 57;((with_reducible refine(KR.out _).mono ?_));rintro e w' ⟨rfl,rfl⟩));rw[HR.out];exact bodyPost_ret (v:= .tuple #[.agg #[.int .i64 1,.string (s.extract k q),.int .i64 0,.slice none 0 0,.int .i64 k],.int .i64 q,.int .i64 0,.int .i64 0]) (by simp[results,Tryz.results40,go_sem]) rfl (postO_word HE.out ((Below.refl _ _).alloc (Nat.le_refl _) _) HQ.out)
 ·rw[decide_eq_false h14,if_neg (by decide)] at hR
  have HR:=Lib.hid hR;have h14':(14:Int)<(q:Int) - k:=by omega
  clear hR h34 hd hl h36 h45 hrun hq hw hlow hE hqn;go_enter Tryz.func40,Tryz.ntmps40;go_wp2_with (first | (go_at_call 56;((with_reducible refine(KL.out _).mono ?_));rintro e w' ⟨rfl,rfl⟩) | (go_at_call 57;((with_reducible refine(KR.out _).mono ?_));rintro e w' ⟨rfl,rfl⟩));rw[HR.out];exact bodyPost_ret (v:= .tuple #[.agg #[.int .i64 0,.string ⟨#[]⟩,.int .i64 0,.slice none 0 0,.int .i64 0],.int .i64 0,.int .i64 k,.int .i64 1]) (by simp[results,Tryz.results40,go_sem]) rfl (postO_bad ((Below.refl _ _).alloc (Nat.le_refl _) _) 1)
theorem one_num (s:ByteArray) (k:Nat) (hk:k<s.size) (hs:s.size≤4000) (hd:isDig s[k]=true) (w:World):
  Calls Tryz.prog 40 #[.string s,.int .i64 k] w (PostO w k (tokR (s.data.toList.drop k))):=by
 have hdl:∀ c:UInt8,isDig c=true→c≠34∧isLow c=false:=all256 _ (by decide+kernel);obtain⟨h34,hl⟩:=hdl _ hd
 have hR:tokR (s.data.toList.drop k)=numT (s.data.toList.drop k):=by
  rw[drop_at s k hk];unfold tokR;dsimp only;rw[if_neg h34,if_pos hd]
 rw[hR,numT_cases];have KR:=Lib.hid fun w=>rrun_dig s k (by omega) (by omega) w
 have hrun:=runL_le isDig (s.data.toList.drop k);have hall:=runL_all isDig (s.data.toList.drop k);have h0:0<runL isDig (s.data.toList.drop k):=by rw[runL_at isDig s k hk,if_pos hd];omega
 rw[List.length_drop,len_data] at hrun;generalize runL isDig (s.data.toList.drop k)=n at KR hrun hall h0 ⊢
 have hx:(s.extract k (k+n)).size≤4000:=by
  rw[←len_data,ext_data,List.length_take,List.length_drop,len_data];omega
 have hne:(s.data.toList.drop k).take n≠[]:=by
  intro e;have:=congrArg List.length e;rw[List.length_take,List.length_drop,len_data,List.length_nil] at this;omega
 have hsp:=numR_spec _ hall hne;obtain⟨n0,n1,n2⟩:=numR_facts ((s.data.toList.drop k).take n);rw[←ext_data] at hsp;have KP:=Lib.hid fun w=>rparse_anyN _ hx _ _ hsp w
 rw[ext_data] at KP;generalize numR ((s.data.toList.drop k).take n)=R at KP n0 n1 n2 ⊢;obtain⟨v,x⟩:=R;dsimp only at KP n0 n1 n2 ⊢;have hdn:48≤(s[k].toNat:Int)∧(s[k].toNat:Int)≤57:=by unfold isDig at hd;exact of_decide_eq_true hd
 obtain⟨d1,d2⟩:=hdn;have KL:=Lib.hid fun w=>tsmall_no s[k] w
 rw[hl] at KL;obtain⟨q,hq⟩:∃ q,q=k+n:=⟨_,rfl⟩;have HQ:=Lib.hid hq;rw[←hq] at KR KP;have q1:k≤q:=by omega
 have q2:q≤s.size:=by omega
 clear hsp hne hx hall hd hq hrun h0 hR h34 hl hdl;by_cases hx0:x=0
 ·subst hx0
  rw[if_pos rfl];go_enter Tryz.func40,Tryz.ntmps40;go_wp2_with (first | (go_at_call 56;((with_reducible refine(KL.out _).mono ?_));rintro e w' ⟨rfl,rfl⟩) | (go_at_call 57;((with_reducible refine(KR.out _).mono ?_));rintro e w' ⟨rfl,rfl⟩) | (go_at_call 58;((with_reducible refine(KP.out _).mono ?_));rintro e w' ⟨rfl,rfl⟩));refine bodyPost_ret (v:= .tuple #[tokV ⟨2,[],v,[],k⟩ (.slice none 0 0),.int .i64 q,.int .i64 0,.int .i64 0]) (by simp[results,Tryz.results40,go_sem,tokV]) rfl ⟨_,_,?_,World.ownsRow_nil _ _ _ _,(Below.refl _ _).alloc (Nat.le_refl _) _,fun t' q h=>by injection h with h _;subst h;rfl⟩;rw[HQ.out];rfl
 ·rw[if_neg hx0]
  have hb0:(x != 0)=true:=by simpa using hx0
  clear hx0;go_enter Tryz.func40,Tryz.ntmps40;go_wp2_with (first | (go_at_call 56;((with_reducible refine(KL.out _).mono ?_));rintro e w' ⟨rfl,rfl⟩) | (go_at_call 57;((with_reducible refine(KR.out _).mono ?_));rintro e w' ⟨rfl,rfl⟩) | (go_at_call 58;((with_reducible refine(KP.out _).mono ?_));rintro e w' ⟨rfl,rfl⟩));exact bodyPost_ret (v:= .tuple #[tokV ⟨0,[],0,[],0⟩ (.slice none 0 0),.int .i64 0,.int .i64 k,.int .i64 x]) (by simp[results,Tryz.results40,go_sem,tokV]) rfl ⟨_,_,rfl,World.ownsRow_nil _ _ _ _,(Below.refl _ _).alloc (Nat.le_refl _) _,fun t' q h=>by cases h⟩
theorem one_text (s:ByteArray) (k:Nat) (hk:k<s.size) (hs:s.size≤4000) (h34:s[k]=34) (w:World):
  Calls Tryz.prog 40 #[.string s,.int .i64 k] w (PostO w k (tokR (s.data.toList.drop k))):=by
 have hR:tokR (s.data.toList.drop k)=textA (parse (s.data.toList.drop k)):=by
  rw[drop_at s k hk];unfold tokR;dsimp only;rw[if_pos h34];rfl
 rw[hR];have hl:isLow s[k]=false:=by rw[h34];decide
 have KP:=Lib.hid fun w=>rparse_any (s.extract k s.size) (by rw[ByteArray.size_extract];omega) w
 rw[ext_tail] at KP;have hbd:=(parse_bd (s.data.toList.drop k)).1;rw[List.length_drop,len_data] at hbd;generalize parse (s.data.toList.drop k)=R at KP hbd ⊢;obtain⟨o,q⟩:=R;dsimp only at hbd
 have KP:Hid (∀ w,Calls Tryz.prog 59 #[.string (s.extract k s.size)] w fun e w'=>∃ A c,e= .returned (.tuple #[.slice A (outOf o).length c,.int .i64 q,.int .i64 (errOf o)])∧OwnP w.heap.size w' (.slice A (outOf o).length c) (outOf o)∧Below w.heap.size w w'):=Lib.hid fun w=>(KP.out w).mono fun e w' ⟨v,he,ho,hb⟩=>by
  obtain⟨A,c,rfl,_⟩:=rd_of_own (ps:=outOf o) ho;exact⟨A,c,he,ho,hb⟩
 have KL:=Lib.hid fun w=>tsmall_no s[k] w
 rw[hl] at KL;have b34:((s[k].toNat:Int)==34)=true:=byte_eq (n:=34) h34 (by omega);have b48:(s[k].toNat:Int)<48:=by rw[h34];decide
 clear hR h34 hl
 cases o with
 | none=>
   go_enter Tryz.func40,Tryz.ntmps40;go_wp2_with (first | (go_at_call 56;((with_reducible refine(KL.out _).mono ?_));rintro e w' ⟨rfl,rfl⟩) | (go_at_call 59;((with_reducible refine(KP.out _).mono ?_));rintro e w' ⟨A,c,rfl,ho,hb⟩;obtain⟨hc,hfz⟩:=bcell hb;have hz:=size_le hb;have HB:=Lib.hid hb;clear hb ho));refine bodyPost_ret (v:= .tuple #[tokV ⟨0,[],0,[],0⟩ (.slice none 0 0),.int .i64 0,.int .i64 ((k:Int)+q),.int .i64 1]) (by simp[results,Tryz.results40,go_sem,hc,tokV]) rfl ⟨⟨0,[],0,[],0⟩,.slice none 0 0,?_,World.ownsRow_nil _ _ _ _,box5_below HB.out _ _ _ _ _,fun t' q h=>by cases h⟩
   rfl
 | some ps=>
   go_enter Tryz.func40,Tryz.ntmps40;go_wp2_with (first | (go_at_call 56;((with_reducible refine(KL.out _).mono ?_));rintro e w' ⟨rfl,rfl⟩) | (go_at_call 59;((with_reducible refine(KP.out _).mono ?_));rintro e w' ⟨A,c,rfl,ho,hb⟩;obtain⟨hc,hfz⟩:=bcell hb;have hz:=size_le hb;have HB:=Lib.hid hb;have HO:=Lib.hid ho;clear hb ho));refine bodyPost_ret (v:= .tuple #[tokV ⟨3,[],0,ps,k⟩ (.slice A ps.length c),.int .i64 ((k:Int)+q),.int .i64 0,.int .i64 0]) (by simp[results,Tryz.results40,go_sem,hc,tokV,outOf]) rfl ⟨⟨3,[],0,ps,k⟩,.slice A ps.length c,?_,box5_own HO.out _ _ _ _ _,box5_below HB.out _ _ _ _ _,fun t' q' h=>?_⟩
   ·rfl
   ·injection h with h _;subst h;rfl
theorem one_var (s:ByteArray) (k:Nat) (hk:k<s.size) (hs:s.size≤4000) (h36:s[k]=36) (w:World):
  Calls Tryz.prog 40 #[.string s,.int .i64 k] w (PostO w k (tokR (s.data.toList.drop k))):=by
 have hd:isDig s[k]=false:=by rw[h36];decide
 have hl:isLow s[k]=false:=by rw[h36];decide
 obtain⟨R,hR⟩:∃ R,R=tokR (s.data.toList.drop k):=⟨_,rfl⟩;rw[←hR]
 replace hR:R=wordR 6 ((s.data.toList.drop (k+1)).take (runL isIn (s.data.toList.drop (k+1)))) (runL isIn (s.data.toList.drop (k+1))+1):=by
  rw[hR]
  conv=>lhs;rw[drop_at s k hk]
  unfold tokR;dsimp only;rw[if_neg (by rw[h36];decide),if_neg (by rw[hd];decide),if_neg (by rw[hl];decide),if_pos h36]
 have KR:=Lib.hid fun w=>rrun_in s (k+1) (by omega) (by omega) w
 have hrun:=runL_le isIn (s.data.toList.drop (k+1));rw[List.length_drop,len_data] at hrun;generalize runL isIn (s.data.toList.drop (k+1))=n at KR hrun hR;obtain⟨q,hq⟩:∃ q,q=k+1+n:=⟨_,rfl⟩
 have hx:(s.extract (k+1) (k+1+n)).size≤4611686018427387904:=by
  rw[←len_data,ext_data,List.length_take,List.length_drop,len_data];omega
 have KN:=Lib.hid fun w=>rname_any (s.extract (k+1) (k+1+n)) hx w
 rw[ext_data] at KN;unfold wordR at hR;rw[mayW_6] at hR;have KR:Hid (∀ w,Calls Tryz.prog 57 #[.string s,.int .i64 ((k:Int)+1),.bool false] w fun e w'=>e= .returned (.int .i64 ((k+1+n:Nat):Int))∧w=w'):=Lib.hid fun w=>KR.out w
 have hE:s.extract (k+1) q=s.extract (k+1) (k+1+n):=by rw[hq]
 have HE:=Lib.hid hE;have HQ:Hid (q=k+(n+1)):=Lib.hid (by omega);have q1:k+1≤q:=by omega
 have q2:q≤s.size:=by omega
 rw[←hq] at KR KN;have b34:((s[k].toNat:Int)==34)=false:=byte_ne (n:=34) (by rw[h36];decide) (by omega);have b36:((s[k].toNat:Int)==36)=true:=byte_eq (n:=36) h36 (by omega);have b48:(s[k].toNat:Int)<48:=by rw[h36];decide
 have KL:=Lib.hid fun w=>tsmall_no s[k] w
 rw[hl] at KL;by_cases hm:isName ((s.data.toList.drop (k+1)).take n)=true
 ·rw[hm] at hR KN
  rw[if_pos rfl] at hR;have HR:=Lib.hid hR;clear hR hd hl h36 hrun hq hm hE hx;go_enter Tryz.func40,Tryz.ntmps40;go_wp2_with (first | (go_at_call 56;((with_reducible refine(KL.out _).mono ?_));rintro e w' ⟨rfl,rfl⟩) | (go_at_call 57;((with_reducible refine(KR.out _).mono ?_));rintro e w' ⟨rfl,rfl⟩) | (go_at_call 60;((with_reducible refine(KN.out _).mono ?_));rintro e w' ⟨rfl,rfl⟩));rw[HR.out];exact bodyPost_ret (v:= .tuple #[.agg #[.int .i64 6,.string (s.extract (k+1) q),.int .i64 0,.slice none 0 0,.int .i64 k],.int .i64 q,.int .i64 0,.int .i64 0]) (by simp[results,Tryz.results40,go_sem]) rfl (postO_word HE.out ((Below.refl _ _).alloc (Nat.le_refl _) _) HQ.out)
 ·rw[Bool.eq_false_iff.2 hm] at hR KN
  rw[if_neg (by decide)] at hR;have HR:=Lib.hid hR;clear hR hd hl h36 hrun hq hm hE hx;go_enter Tryz.func40,Tryz.ntmps40;go_wp2_with (first | (go_at_call 56;((with_reducible refine(KL.out _).mono ?_));rintro e w' ⟨rfl,rfl⟩) | (go_at_call 57;((with_reducible refine(KR.out _).mono ?_));rintro e w' ⟨rfl,rfl⟩) | (go_at_call 60;((with_reducible refine(KN.out _).mono ?_));rintro e w' ⟨rfl,rfl⟩));rw[HR.out];exact bodyPost_ret (v:= .tuple #[.agg #[.int .i64 0,.string ⟨#[]⟩,.int .i64 0,.slice none 0 0,.int .i64 0],.int .i64 0,.int .i64 k,.int .i64 1]) (by simp[results,Tryz.results40,go_sem]) rfl (postO_bad ((Below.refl _ _).alloc (Nat.le_refl _) _) 1)
theorem one_flag (s:ByteArray) (k:Nat) (hk:k<s.size) (hs:s.size≤4000) (h45:s[k]=45) (hlow:lowHead (s.data.toList.drop (k+1))=true) (w:World):
  Calls Tryz.prog 40 #[.string s,.int .i64 k] w (PostO w k (tokR (s.data.toList.drop k))):=by
 have hd:isDig s[k]=false:=by rw[h45];decide
 have hl:isLow s[k]=false:=by rw[h45];decide
 obtain⟨R,hR⟩:∃ R,R=tokR (s.data.toList.drop k):=⟨_,rfl⟩;rw[←hR]
 replace hR:R=wordR 5 ((s.data.toList.drop (k+1)).take (runL isLow (s.data.toList.drop (k+1)))) (runL isLow (s.data.toList.drop (k+1))+1):=by
  rw[hR]
  conv=>lhs;rw[drop_at s k hk]
  unfold tokR;dsimp only;rw[if_neg (by rw[h45];decide),if_neg (by rw[hd];decide),if_neg (by rw[hl];decide),if_neg (by rw[h45];decide),if_pos ⟨h45,hlow⟩]
 have hpos:0<runL isLow (s.data.toList.drop (k+1)):=by rw[lowHead_run] at hlow;exact of_decide_eq_true hlow
 have KR:=Lib.hid fun w=>letters_any s (k+1) (by omega) (by omega) w
 have hrun:=runL_le isLow (s.data.toList.drop (k+1));rw[List.length_drop,len_data] at hrun;generalize runL isLow (s.data.toList.drop (k+1))=n at KR hrun hR hpos;obtain⟨q,hq⟩:∃ q,q=k+1+n:=⟨_,rfl⟩
 have hx:(s.extract (k+1) (k+1+n)).size≤4611686018427387904:=by
  rw[←len_data,ext_data,List.length_take,List.length_drop,len_data];omega
 have KN:=Lib.hid fun w=>rflag_any (s.extract (k+1) (k+1+n)) w
 rw[ext_data] at KN;unfold wordR at hR;rw[mayW_5] at hR;have KR:Hid (∀ w,Calls Tryz.prog 61 #[.string s,.int .i64 ((k:Int)+1)] w fun e w'=>e= .returned (.int .i64 ((k+1+n:Nat):Int))∧w=w'):=Lib.hid fun w=>KR.out w
 have hE:s.extract (k+1) q=s.extract (k+1) (k+1+n):=by rw[hq]
 have HE:=Lib.hid hE;have HQ:Hid (q=k+(n+1)):=Lib.hid (by omega);have q1:k+1<q:=by omega
 have q2:q≤s.size:=by omega
 rw[←hq] at KR KN;have b34:((s[k].toNat:Int)==34)=false:=byte_ne (n:=34) (by rw[h45];decide) (by omega);have b36:((s[k].toNat:Int)==36)=false:=byte_ne (n:=36) (by rw[h45];decide) (by omega);have b45:((s[k].toNat:Int)==45)=true:=byte_eq (n:=45) h45 (by omega);have b48:(s[k].toNat:Int)<48:=by rw[h45];decide
 have KL:=Lib.hid fun w=>tsmall_no s[k] w
 rw[hl] at KL;by_cases hm:isFlagL ((s.data.toList.drop (k+1)).take n)=true
 ·rw[hm] at hR KN
  rw[if_pos rfl] at hR;have HR:=Lib.hid hR;clear hR hd hl h45 hrun hq hm hE hx hlow hpos;go_enter Tryz.func40,Tryz.ntmps40;go_wp2_with (first | (go_at_call 56;((with_reducible refine(KL.out _).mono ?_));rintro e w' ⟨rfl,rfl⟩) | (go_at_call 61;((with_reducible refine(KR.out _).mono ?_));rintro e w' ⟨rfl,rfl⟩) | (go_at_call 62;((with_reducible refine(KN.out _).mono ?_));rintro e w' ⟨rfl,rfl⟩));rw[HR.out];exact bodyPost_ret (v:= .tuple #[.agg #[.int .i64 5,.string (s.extract (k+1) q),.int .i64 0,.slice none 0 0,.int .i64 k],.int .i64 q,.int .i64 0,.int .i64 0]) (by simp[results,Tryz.results40,go_sem]) rfl (postO_word HE.out ((Below.refl _ _).alloc (Nat.le_refl _) _) HQ.out)
 ·rw[Bool.eq_false_iff.2 hm] at hR KN
  rw[if_neg (by decide)] at hR;have HR:=Lib.hid hR;clear hR hd hl h45 hrun hq hm hE hx hlow hpos;go_enter Tryz.func40,Tryz.ntmps40;go_wp2_with (first | (go_at_call 56;((with_reducible refine(KL.out _).mono ?_));rintro e w' ⟨rfl,rfl⟩) | (go_at_call 61;((with_reducible refine(KR.out _).mono ?_));rintro e w' ⟨rfl,rfl⟩) | (go_at_call 62;((with_reducible refine(KN.out _).mono ?_));rintro e w' ⟨rfl,rfl⟩));rw[HR.out];exact bodyPost_ret (v:= .tuple #[.agg #[.int .i64 0,.string ⟨#[]⟩,.int .i64 0,.slice none 0 0,.int .i64 0],.int .i64 0,.int .i64 k,.int .i64 1]) (by simp[results,Tryz.results40,go_sem]) rfl (postO_bad ((Below.refl _ _).alloc (Nat.le_refl _) _) 1)
def sgFind:List Bs→Bs→Nat
 | [],_=>0
 | x::r,l=>if l.take x.length=x then x.length else sgFind r l
theorem sgFind_len (n:Nat) (hn:0<n) (l:Bs):∀ L:List Bs,(∀ x∈L,x.length=n)→sgFind L l=if L.contains (l.take n) then n else 0
 | [],_=>rfl
 | x::r,h=>by
   have hx:=h x (by simp);have ih:=sgFind_len n hn l r (fun y hy=>h y (by simp[hy]));unfold sgFind;rw[hx,ih,List.contains_cons];by_cases e:l.take n=x
   ·rw[if_pos e,if_pos (by simp[e])]
   ·rw[if_neg e]
    have:(l.take n==x)=false:=by simpa using e
    rw[this,Bool.false_or]
theorem sgFind_append (l:Bs):∀ A B:List Bs,(∀ x∈A,0<x.length)→sgFind (A++B) l=if 0<sgFind A l then sgFind A l else sgFind B l
 | [],B,_=>rfl
 | x::r,B,h=>by
   have hx:=h x (by simp);have ih:=sgFind_append l r B (fun y hy=>h y (by simp[hy]));have e1:∀ r,sgFind (x::r) l=if l.take x.length=x then x.length else sgFind r l:=fun _=>rfl
   rw[List.cons_append,e1,e1];by_cases e:l.take x.length=x
   ·rw[if_pos e,if_pos e,if_pos hx]
   ·rw[if_neg e,if_neg e,ih]
def sgn2:List Bs:=[[60,61],[62,61],[61,61],[33,61],[38,38],[124,124]]
def sgn1:List Bs:=[[123],[125],[40],[41],[43],[45],[42],[47],[37],[60],[62],[33]]
theorem sgns_eq:sgns=sgn2++sgn1:=rfl
theorem contains_len {L:List Bs} {n:Nat} (h:∀ x∈L,x.length=n) {w:Bs} (hw:¬ w.length=n):L.contains w=false:=by
 rw[Bool.eq_false_iff];intro hc;exact hw (h w (List.contains_iff_mem.1 hc))
theorem sgFind_signL (l:Bs):sgFind sgns l=signL l:=by
 have h2:∀ x∈sgn2,x.length=2:=by decide
 have h1:∀ x∈sgn1,x.length=1:=by decide
 rw[sgns_eq,sgFind_append l _ _ (by decide),sgFind_len 2 (by decide) l _ h2,sgFind_len 1 (by decide) l _ h1];have hs:∀ w:Bs,isSignL w=(sgn2.contains w || sgn1.contains w):=fun w=>by unfold isSignL;rw[sgns_eq,List.contains_append]
 unfold signL;rw[hs,hs]
 rcases l with _ | ⟨a,_ | ⟨b,r⟩⟩
 ·decide
 ·have t2:([a]:Bs).take 2=[a]:=rfl
  have t1:([a]:Bs).take 1=[a]:=rfl;rw[t2,t1,contains_len h2 (w:=[a]) (by simp)];simp
 ·have t2:(a::b::r:Bs).take 2=[a,b]:=rfl
  have t1:(a::b::r:Bs).take 1=[a]:=rfl;rw[t2,t1,contains_len h1 (w:=[a,b]) (by simp),contains_len h2 (w:=[a]) (by simp),Bool.or_false,Bool.false_or];by_cases e:sgn2.contains [a,b]=true
  ·rw[if_pos e,if_pos (by decide),if_pos e];rfl
  ·rw[if_neg e,if_neg (by decide),if_neg e]
def sgnA:Array Value:=#[.string ⟨#[60,61]⟩,.string ⟨#[62,61]⟩,.string ⟨#[61,61]⟩,.string ⟨#[33,61]⟩,.string ⟨#[38,38]⟩,.string ⟨#[124,124]⟩,.string ⟨#[123]⟩,.string ⟨#[125]⟩,.string ⟨#[40]⟩,.string ⟨#[41]⟩,.string ⟨#[43]⟩,.string ⟨#[45]⟩,.string ⟨#[42]⟩,.string ⟨#[47]⟩,.string ⟨#[37]⟩,.string ⟨#[60]⟩,.string ⟨#[62]⟩,.string ⟨#[33]⟩]
theorem signs_any (w:World):Calls Tryz.prog 63 #[] w fun e w'=>e= .returned (.slice (some ⟨w.heap.size,0,none⟩) 18 18)∧w'=w.alloc (.cells sgnA 9):=by
 go_enter Tryz.func63,Tryz.ntmps63;go_wp2;go_ret;exact⟨rfl,rfl⟩
theorem sgnA_at (i:Nat) (x:Bs) (h:sgns[i]?=some x):sgnA[i]?=some (.string ⟨x.toArray⟩):=by
 have e:sgnA=(sgns.map fun x=>Value.string ⟨x.toArray⟩).toArray:=rfl;rw[e,List.getElem?_toArray,List.getElem?_map,h];rfl
theorem sgns_len:sgns.length=18:=rfl
theorem sgns_sign {i:Nat} {x:Bs} (h:sgns[i]?=some x):isSignL x=true:=by unfold isSignL;exact List.contains_iff_mem.2 (List.mem_of_getElem? h)
theorem sgFind_step {i:Nat} {x:Bs} (h:sgns[i]?=some x) (l:Bs):sgFind (sgns.drop i) l=if l.take x.length=x then x.length else sgFind (sgns.drop (i+1)) l:=by
 obtain⟨hi,e⟩:=List.getElem?_eq_some_iff.1 h;rw[List.drop_eq_getElem_cons hi,e];rfl
abbrev boxS (w:World):World:=(w.alloc (.cells #[.int .i64 0,.string ⟨#[]⟩,.int .i64 0,.slice none 0 0,.int .i64 0] 105)).alloc (.cells sgnA 9)
theorem boxS_at (w:World) {j:Nat} {x:Bs} (h:sgns[j]?=some x):(boxS w).cell? ⟨w.heap.size+1,j,none⟩=some (.string ⟨x.toArray⟩):=by
 have e:(w.alloc (.cells #[.int .i64 0,.string ⟨#[]⟩,.int .i64 0,.slice none 0 0,.int .i64 0] 105)).heap.size=w.heap.size+1:=by simp
 rw[←e];have:=new_cells (w.alloc (.cells #[.int .i64 0,.string ⟨#[]⟩,.int .i64 0,.slice none 0 0,.int .i64 0] 105)) 9 sgnA j _ (by rw[Array.getElem?_toList];exact sgnA_at j x h);have ea:∀ b j:Nat,(⟨b,0,none⟩:Addr).add j=⟨b,j,none⟩:=fun b j=>by unfold Addr.add;split <;> simp_all
 rwa [ea] at this
theorem boxS_put (w:World) (m:Nat) (u0 u1 u2 u3 u4:Value):Below w.heap.size w (put5 ((boxS w).drewN m) w.heap.size u0 u1 u2 u3 u4):=
 (((((below_drewN (((Below.refl _ _).alloc (Nat.le_refl _) _).alloc (by simp) _) m).setCell (Nat.le_refl _) u0).setCell (Nat.le_refl _) u1).setCell (Nat.le_refl _) u2).setCell (Nat.le_refl _) u3).setCell (Nat.le_refl _) u4
theorem one_sign (s:ByteArray) (k:Nat) (hk:k<s.size) (hs:s.size≤4000) (h34:s[k]≠34) (hd:isDig s[k]=false) (hl:isLow s[k]=false) (h36:s[k]≠36) (h45:s[k]≠45) (w:World):
  Calls Tryz.prog 40 #[.string s,.int .i64 k] w (PostO w k (tokR (s.data.toList.drop k))):=by
 have hno:¬ (s[k]=45∧lowHead (s.data.toList.drop (k+1))=true):=fun h=>h45 h.1
 obtain⟨R,hR⟩:∃ R,R=tokR (s.data.toList.drop k):=⟨_,rfl⟩;rw[←hR]
 replace hR:R=wordR 4 ((s.data.toList.drop k).take (signL (s.data.toList.drop k))) (signL (s.data.toList.drop k)):=by
  rw[hR]
  conv=>lhs;rw[drop_at s k hk]
  unfold tokR;dsimp only;rw[if_neg h34,if_neg (by rw[hd];decide),if_neg (by rw[hl];decide),if_neg h36,if_neg hno,←drop_at s k hk]
 have hfs:=sgFind_signL (s.data.toList.drop k);unfold wordR at hR;rw[mayW_4] at hR;have HR:=Lib.hid hR;have HF:=Lib.hid hfs
 have hdn:(s[k].toNat:Int)<48∨(48≤(s[k].toNat:Int)∧57<(s[k].toNat:Int)):=by
  unfold isDig at hd;have:=of_decide_eq_false hd;omega
 have b34:((s[k].toNat:Int)==34)=false:=byte_ne (n:=34) h34 (by omega);have b36:((s[k].toNat:Int)==36)=false:=byte_ne (n:=36) h36 (by omega);have b45:((s[k].toNat:Int)==45)=false:=byte_ne (n:=45) h45 (by omega);have KL:=Lib.hid fun w=>tsmall_no s[k] w
 rw[hl] at KL;have KS:=Lib.hid signs_any;clear hR hfs h34 hd hl h36 h45 hno
 rcases hdn with d1 | ⟨d1,d2⟩
 all_goals
  go_enter Tryz.func40,Tryz.ntmps40;go_wp2_with (first | (go_at_call 56;((with_reducible refine(KL.out _).mono ?_));rintro e w' ⟨rfl,rfl⟩) | (go_at_call 63;((with_reducible refine(KS.out _).mono ?_));rintro e w' ⟨rfl,rfl⟩))
  go_loopw [19] (fun i wr=>∃ j m:Nat,j≤18∧i= .int .i64 j∧signL (s.data.toList.drop k)=sgFind (sgns.drop j) (s.data.toList.drop k)∧wr=(boxS w).drewN m) (fun i _=>18 - (intOf i).toNat)
  case atStart=>exact⟨0,0,by omega,rfl,HF.out.symm,rfl⟩
  case round=>
   obtain⟨j,m,hj,rfl,hsg,rfl⟩:=hrel;have HS:=Lib.hid hsg;clear hsg;by_cases a:j<18
   ·obtain⟨x,hx⟩:∃ x,sgns[j]?=some x:=⟨_,List.getElem?_eq_getElem (by rw[sgns_len];exact a)⟩
    have c0:=boxS_at w hx;obtain⟨X,hX⟩:∃ X:ByteArray,X=⟨x.toArray⟩:=⟨_,rfl⟩;rw[←hX] at c0;have hXl:=sign_len (sgns_sign hx);have hXs:X.size=x.length:=by rw[←len_data,hX]
    rw[←hXs] at hXl;obtain⟨x1,x2⟩:=hXl;have hst:=sgFind_step hx (s.data.toList.drop k);have hxd:X.toList=x:=by rw[toList_data,hX]
    have hed:(s.extract k (k+X.size)).toList=(s.data.toList.drop k).take x.length:=by rw[toList_data,ext_data,hXs]
    have HX:=Lib.hid hx;have HXX:=Lib.hid hX;have HXs:=Lib.hid hXs;by_cases hf:k+X.size≤s.size
    ·have hf1:(k:Int)+X.size≤s.size:=by omega
     have hf2:(k:Int)≤(k:Int)+X.size:=by omega
     by_cases hm:(s.data.toList.drop k).take x.length=x
     ·have hb:((s.extract k (k+X.size)).toList==X.toList)=true:=by rw[hed,hxd,hm];simp
      have HR2:Hid (R= .ok ⟨4,(s.data.toList.drop k).take X.size,0,[],0⟩ X.size):=by
       apply Lib.hid;rw[HR.out,HS.out,hst,if_pos hm,hXs,hm,sgns_sign hx,if_pos rfl]
      have HE:Hid (X=s.extract k (k+X.size)):=by
       apply Lib.hid;rw[ext_eq,hXs,hm,hX]
      clear hx hX hXs hst hxd hed hm;go_wp2;go_quiet (fail);go_wp2;rw[HR2.out];exact bodyPost_ret (v:= .tuple #[.agg #[.int .i64 4,.string X,.int .i64 0,.slice none 0 0,.int .i64 k],.int .i64 ((k:Int)+X.size),.int .i64 0,.int .i64 0]) (by simp[results,Tryz.results40,go_sem]) rfl (postO_word (p:=k+X.size) HE.out (boxS_put w _ _ _ _ _ _) rfl)
     ·have hb:((s.extract k (k+X.size)).toList==X.toList)=false:=by rw[hed,hxd];simpa using hm
      have HS2:Hid (signL (s.data.toList.drop k)=sgFind (sgns.drop (j+1)) (s.data.toList.drop k)):=by
       apply Lib.hid;rw[HS.out,hst,if_neg hm]
      clear hx hX hXs hst hxd hed hm;go_wp2;go_quiet (fail);go_wp2
      go_roundw
      case rel=>exact⟨j+1,_,by omega,by go_num,HS2.out,rfl⟩
      case measure=>simp[intOf];omega
    ·have hm:¬ (s.data.toList.drop k).take x.length=x:=by
      intro e;have:=congrArg List.length e;rw[List.length_take,List.length_drop,len_data] at this;omega
     have hf1:decide ((k:Int)+X.size≤s.size)=false:=by simp;omega
     have HS2:Hid (signL (s.data.toList.drop k)=sgFind (sgns.drop (j+1)) (s.data.toList.drop k)):=by
      apply Lib.hid;rw[HS.out,hst,if_neg hm]
     clear hx hX hXs hst hxd hed hm;go_wp2;go_quiet (fail);go_wp2
     go_roundw
     case rel=>exact⟨j+1,_,by omega,by go_num,HS2.out,rfl⟩
     case measure=>simp[intOf];omega
   ·have HR2:Hid (R= .bad 0 1):=by
     apply Lib.hid;obtain rfl:j=18:=by omega
     have e:signL (s.data.toList.drop k)=0:=HS.out;rw[HR.out,e,List.take_zero,sign_nil,if_neg (by decide)]
    go_wp2;rw[HR2.out];exact bodyPost_ret (v:= .tuple #[.agg #[.int .i64 0,.string ⟨#[]⟩,.int .i64 0,.slice none 0 0,.int .i64 0],.int .i64 0,.int .i64 k,.int .i64 1]) (by simp[results,Tryz.results40,go_sem]) rfl (postO_bad (boxS_put w _ _ _ _ _ _) 1)
theorem one_dash (s:ByteArray) (k:Nat) (hk:k<s.size) (hs:s.size≤4000) (h45:s[k]=45) (hlow:lowHead (s.data.toList.drop (k+1))=false) (w:World):
  Calls Tryz.prog 40 #[.string s,.int .i64 k] w (PostO w k (tokR (s.data.toList.drop k))):=by
 have h34:s[k]≠34:=by rw[h45];decide
 have h36:s[k]≠36:=by rw[h45];decide
 have hd:isDig s[k]=false:=by rw[h45];decide
 have hl:isLow s[k]=false:=by rw[h45];decide
 have hno:¬ (s[k]=45∧lowHead (s.data.toList.drop (k+1))=true):=fun h=>by rw[hlow] at h;cases h.2
 have KR:Hid (∀ w,Calls Tryz.prog 61 #[.string s,.int .i64 ((k:Int)+1)] w fun e w'=>e= .returned (.int .i64 ((k:Int)+1))∧w=w'):=Lib.hid fun w=>by
  have h0:runL isLow (s.data.toList.drop (k+1))=0:=by rw[lowHead_run] at hlow;have:=of_decide_eq_false hlow;omega
  have:=letters_any s (k+1) (by omega) (by omega) w;rw[h0] at this;exact this
 obtain⟨R,hR⟩:∃ R,R=tokR (s.data.toList.drop k):=⟨_,rfl⟩;rw[←hR]
 replace hR:R=wordR 4 ((s.data.toList.drop k).take (signL (s.data.toList.drop k))) (signL (s.data.toList.drop k)):=by
  rw[hR]
  conv=>lhs;rw[drop_at s k hk]
  unfold tokR;dsimp only;rw[if_neg h34,if_neg (by rw[hd];decide),if_neg (by rw[hl];decide),if_neg h36,if_neg hno,←drop_at s k hk]
 have hfs:=sgFind_signL (s.data.toList.drop k);unfold wordR at hR;rw[mayW_4] at hR;have HR:=Lib.hid hR;have HF:=Lib.hid hfs;have d1:(s[k].toNat:Int)<48:=by rw[h45];decide
 have b34:((s[k].toNat:Int)==34)=false:=byte_ne (n:=34) h34 (by omega);have b36:((s[k].toNat:Int)==36)=false:=byte_ne (n:=36) h36 (by omega);have b45:((s[k].toNat:Int)==45)=true:=byte_eq (n:=45) h45 (by omega);have KL:=Lib.hid fun w=>tsmall_no s[k] w
 rw[hl] at KL;have KS:=Lib.hid signs_any;clear hR hfs h34 hd hl h36 h45 hno hlow
 ·go_enter Tryz.func40,Tryz.ntmps40
  go_wp2_with (first | (go_at_call 56;((with_reducible refine(KL.out _).mono ?_));rintro e w' ⟨rfl,rfl⟩) | (go_at_call 61;((with_reducible refine(KR.out _).mono ?_));rintro e w' ⟨rfl,rfl⟩) | (go_at_call 63;((with_reducible refine(KS.out _).mono ?_));rintro e w' ⟨rfl,rfl⟩))
  go_loopw [19] (fun i wr=>∃ j m:Nat,j≤18∧i= .int .i64 j∧signL (s.data.toList.drop k)=sgFind (sgns.drop j) (s.data.toList.drop k)∧wr=(boxS w).drewN m) (fun i _=>18 - (intOf i).toNat)
  case atStart=>exact⟨0,0,by omega,rfl,HF.out.symm,rfl⟩
  case round=>
   obtain⟨j,m,hj,rfl,hsg,rfl⟩:=hrel;have HS:=Lib.hid hsg;clear hsg;by_cases a:j<18
   ·obtain⟨x,hx⟩:∃ x,sgns[j]?=some x:=⟨_,List.getElem?_eq_getElem (by rw[sgns_len];exact a)⟩
    have c0:=boxS_at w hx;obtain⟨X,hX⟩:∃ X:ByteArray,X=⟨x.toArray⟩:=⟨_,rfl⟩;rw[←hX] at c0;have hXl:=sign_len (sgns_sign hx);have hXs:X.size=x.length:=by rw[←len_data,hX]
    rw[←hXs] at hXl;obtain⟨x1,x2⟩:=hXl;have hst:=sgFind_step hx (s.data.toList.drop k);have hxd:X.toList=x:=by rw[toList_data,hX]
    have hed:(s.extract k (k+X.size)).toList=(s.data.toList.drop k).take x.length:=by rw[toList_data,ext_data,hXs]
    have HX:=Lib.hid hx;have HXX:=Lib.hid hX;have HXs:=Lib.hid hXs;by_cases hf:k+X.size≤s.size
    ·have hf1:(k:Int)+X.size≤s.size:=by omega
     have hf2:(k:Int)≤(k:Int)+X.size:=by omega
     by_cases hm:(s.data.toList.drop k).take x.length=x
     ·have hb:((s.extract k (k+X.size)).toList==X.toList)=true:=by rw[hed,hxd,hm];simp
      have HR2:Hid (R= .ok ⟨4,(s.data.toList.drop k).take X.size,0,[],0⟩ X.size):=by
       apply Lib.hid;rw[HR.out,HS.out,hst,if_pos hm,hXs,hm,sgns_sign hx,if_pos rfl]
      have HE:Hid (X=s.extract k (k+X.size)):=by
       apply Lib.hid;rw[ext_eq,hXs,hm,hX]
      clear hx hX hXs hst hxd hed hm;go_wp2;go_quiet (fail);go_wp2;rw[HR2.out];exact bodyPost_ret (v:= .tuple #[.agg #[.int .i64 4,.string X,.int .i64 0,.slice none 0 0,.int .i64 k],.int .i64 ((k:Int)+X.size),.int .i64 0,.int .i64 0]) (by simp[results,Tryz.results40,go_sem]) rfl (postO_word (p:=k+X.size) HE.out (boxS_put w _ _ _ _ _ _) rfl)
     ·have hb:((s.extract k (k+X.size)).toList==X.toList)=false:=by rw[hed,hxd];simpa using hm
      have HS2:Hid (signL (s.data.toList.drop k)=sgFind (sgns.drop (j+1)) (s.data.toList.drop k)):=by
       apply Lib.hid;rw[HS.out,hst,if_neg hm]
      clear hx hX hXs hst hxd hed hm;go_wp2;go_quiet (fail);go_wp2
      go_roundw
      case rel=>exact⟨j+1,_,by omega,by go_num,HS2.out,rfl⟩
      case measure=>simp[intOf];omega
    ·have hm:¬ (s.data.toList.drop k).take x.length=x:=by
      intro e;have:=congrArg List.length e;rw[List.length_take,List.length_drop,len_data] at this;omega
     have hf1:decide ((k:Int)+X.size≤s.size)=false:=by simp;omega
     have HS2:Hid (signL (s.data.toList.drop k)=sgFind (sgns.drop (j+1)) (s.data.toList.drop k)):=by
      apply Lib.hid;rw[HS.out,hst,if_neg hm]
     clear hx hX hXs hst hxd hed hm;go_wp2;go_quiet (fail);go_wp2
     go_roundw
     case rel=>exact⟨j+1,_,by omega,by go_num,HS2.out,rfl⟩
     case measure=>simp[intOf];omega
   ·have HR2:Hid (R= .bad 0 1):=by
     apply Lib.hid;obtain rfl:j=18:=by omega
     have e:signL (s.data.toList.drop k)=0:=HS.out;rw[HR.out,e,List.take_zero,sign_nil,if_neg (by decide)]
    go_wp2;rw[HR2.out];exact bodyPost_ret (v:= .tuple #[.agg #[.int .i64 0,.string ⟨#[]⟩,.int .i64 0,.slice none 0 0,.int .i64 0],.int .i64 0,.int .i64 k,.int .i64 1]) (by simp[results,Tryz.results40,go_sem]) rfl (postO_bad (boxS_put w _ _ _ _ _ _) 1)
theorem one_any (s:ByteArray) (k:Nat) (hk:k<s.size) (hs:s.size≤4000) (w:World):
  Calls Tryz.prog 40 #[.string s,.int .i64 k] w (PostO w k (tokR (s.data.toList.drop k))):=by
 by_cases h34:s[k]=34
 ·exact one_text s k hk hs h34 w
 ·by_cases hd:isDig s[k]=true
  ·exact one_num s k hk hs hd w
  ·by_cases hl:isLow s[k]=true
   ·exact one_word s k hk hs hl w
   ·by_cases h36:s[k]=36
    ·exact one_var s k hk hs h36 w
    ·by_cases h45:s[k]=45
     ·by_cases hx:lowHead (s.data.toList.drop (k+1))=true
      ·exact one_flag s k hk hs h45 hx w
      ·exact one_dash s k hk hs h45 (Bool.eq_false_iff.2 hx) w
     ·exact one_sign s k hk hs h34 (Bool.eq_false_iff.2 hd) (Bool.eq_false_iff.2 hl) h36 h45 w
theorem behind_bl (s:ByteArray) (k:Nat) (hk:k<s.size) (c:isBl s[k]=true):behind s.data.toList k=behind s.data.toList (k+1):=by
 unfold behind;rw[gap_at_bl s k hk c];omega
theorem behind_hash (s:ByteArray) (k:Nat) (hk:k<s.size) (c:s[k]=35):behind s.data.toList k=behind s.data.toList (k+runL notNl (s.data.toList.drop k))∧0<runL notNl (s.data.toList.drop k):=by
 obtain⟨a,b⟩:=gap_at_hash s k hk c;exact⟨by unfold behind;rw[a];omega,b⟩
theorem behind_no (s:ByteArray) (k:Nat) (hk:k<s.size) (c:¬ isBl s[k]=true) (d:s[k]≠35):behind s.data.toList k=k:=by
 unfold behind;rw[gap_at_no s k hk c d];rfl
theorem behind_end (s:ByteArray) (k:Nat) (hk:¬ k<s.size):behind s.data.toList k=k:=by
 unfold behind;rw[gap_at_end s k hk];rfl
def LoopO (s:ByteArray) (w0:World) (R:Option (List Tok) × Nat × Int) (v a:Value) (w:World):Prop:=
 ∃ (k:Nat) (l:List Tv),k≤s.size∧a= .int .i64 k∧goT s.data.toList (behind s.data.toList k) (l.map (·.1))=R∧Tks w0.heap.size w0 w v l∧l.length≤k
def OBad (w0:World) (p:Nat) (x:Int) (e:Ending) (w':World):Prop:=
 ∃ (t:Tok) (A:Option Addr) (c:Nat),e= .returned (.tuple #[.agg #[.int .i64 t.kind,.string ⟨t.word.toArray⟩,.int .i64 t.n,.slice A t.parts.length c,.int .i64 t.pl],.int .i64 0,.int .i64 p,.int .i64 x])∧Below w0.heap.size w0 w'
def OOk (w0:World) (p:Nat) (t:Tok) (e:Ending) (w':World):Prop:=
 ∃ (A:Option Addr) (c:Nat),e= .returned (.tuple #[.agg #[.int .i64 t.kind,.string ⟨t.word.toArray⟩,.int .i64 t.n,.slice A t.parts.length c,.int .i64 t.pl],.int .i64 p,.int .i64 0,.int .i64 0])∧OwnP w0.heap.size w' (.slice A t.parts.length c) t.parts∧Below w0.heap.size w0 w'
theorem one_b (s:ByteArray) (k q:Nat) (x:Int) (hk:k<s.size) (hs:s.size≤4000) (h:tokR (s.data.toList.drop k)= .bad q x) (w:World):Calls Tryz.prog 40 #[.string s,.int .i64 k] w (OBad w (k+q) x):=by
 have:=one_any s k hk hs w;rw[h] at this
 exact this.mono fun e w' ⟨t,v,he,ho,hb,_⟩=>by
  obtain⟨A,c,rfl,_⟩:=rd_of_own (ps:=t.parts) ho;exact⟨t,A,c,he,hb⟩
theorem one_o (s:ByteArray) (k q:Nat) (t:Tok) (hk:k<s.size) (hs:s.size≤4000) (h:tokR (s.data.toList.drop k)= .ok t q) (w:World):Calls Tryz.prog 40 #[.string s,.int .i64 k] w (OOk w (k+q) (withPl t k)):=by
 have:=one_any s k hk hs w;rw[h] at this
 exact this.mono fun e w' ⟨t',v,he,ho,hb,ht⟩=>by
  obtain rfl:=ht t q rfl;obtain⟨A,c,rfl,_⟩:=rd_of_own (ps:=(withPl t k).parts) ho;exact⟨A,c,he,ho,hb⟩
theorem rscan_any (s:ByteArray) (hs:s.size≤4000) (w:World):Calls Tryz.prog 23 #[.string s] w (PostT w (scan s.data.toList)):=by
 by_cases h2000:2000<s.size
 ·have hR:scan s.data.toList=(none,2000,2):=by unfold scan;rw[if_pos (by rw[len_data];exact h2000)]
  rw[hR];clear hR;go_enter Tryz.func23,Tryz.ntmps23;go_wp2
  go_ret3
  exact⟨_,[],rfl,Tks.nil w,rfl⟩
 ·obtain⟨R,hR⟩:∃ R,R=goT s.data.toList (behind s.data.toList 0) []:=⟨_,rfl⟩
  have hsc:scan s.data.toList=R:=by unfold scan;rw[if_neg (by rw[len_data];exact h2000),hR]
  rw[hsc];have HR:=Lib.hid hR.symm;obtain⟨i0,hi0,hz0,hz1,hz2⟩:=info_parts infoT;clear hR hsc;go_enter Tryz.func23,Tryz.ntmps23;go_wp2
  go_loopw [5,6] (fun v a wr=>LoopO s w R v a wr) (fun _ a _=>s.size - (intOf a).toNat)
  case atStart=>exact⟨0,[],by omega,rfl,HR.out,Tks.nil w,by simp⟩
  case round=>
   obtain⟨k,l,hk,rfl,hg,hT,hl⟩:=hrel;have HGk:=Lib.hid hg;have HT:=Lib.hid hT;clear hg hT;by_cases a:k<s.size
   ·by_cases cb:isBl s[k]=true
    ·have HX:Hid (goT s.data.toList (behind s.data.toList (k+1)) (l.map (·.1))=R):=Lib.hid (by rw[←HGk.out,behind_bl s k a cb])
     have hb:s[k]=32∨(s[k]≠32∧s[k]=9)∨(s[k]≠32∧s[k]≠9∧s[k]=10):=by
      have hx:∀ c:UInt8,isBl c=true→c=32∨(c≠32∧c=9)∨(c≠32∧c≠9∧c=10):=all256 _ (by decide+kernel);exact hx _ cb
     clear cb
     rcases hb with hb | ⟨hb1,hb⟩ | ⟨hb1,hb2,hb⟩
     ·have b1:((s[k].toNat:Int)==32)=true:=byte_eq (n:=32) hb (by omega)
      clear hb;go_wp2
      go_roundw
      case rel=>exact⟨k+1,l,by omega,by go_num,HX.out,HT.out,by omega⟩
      case measure=>simp[intOf];omega
     ·have b1:((s[k].toNat:Int)==32)=false:=byte_ne (n:=32) hb1 (by omega)
      have b2:((s[k].toNat:Int)==9)=true:=byte_eq (n:=9) hb (by omega);clear hb hb1;go_wp2
      go_roundw
      case rel=>exact⟨k+1,l,by omega,by go_num,HX.out,HT.out,by omega⟩
      case measure=>simp[intOf];omega
     ·have b1:((s[k].toNat:Int)==32)=false:=byte_ne (n:=32) hb1 (by omega)
      have b2:((s[k].toNat:Int)==9)=false:=byte_ne (n:=9) hb2 (by omega);have b3:((s[k].toNat:Int)==10)=true:=byte_eq (n:=10) hb (by omega);clear hb hb1 hb2;go_wp2
      go_roundw
      case rel=>exact⟨k+1,l,by omega,by go_num,HX.out,HT.out,by omega⟩
      case measure=>simp[intOf];omega
    ·have hb:s[k]≠32∧s[k]≠9∧s[k]≠10:=by
      have hx:∀ c:UInt8,¬ isBl c=true→c≠32∧c≠9∧c≠10:=all256 _ (by decide+kernel);exact hx _ cb
     obtain⟨hb1,hb2,hb3⟩:=hb;have b1:((s[k].toNat:Int)==32)=false:=byte_ne (n:=32) hb1 (by omega);have b2:((s[k].toNat:Int)==9)=false:=byte_ne (n:=9) hb2 (by omega);have b3:((s[k].toNat:Int)==10)=false:=byte_ne (n:=10) hb3 (by omega);clear hb1 hb2 hb3;by_cases ch:s[k]=35
     ·obtain⟨h1,h2⟩:=behind_hash s k a ch
      have HX:Hid (goT s.data.toList (behind s.data.toList (k+runL notNl (s.data.toList.drop k))) (l.map (·.1))=R):=Lib.hid (by rw[←HGk.out,h1]);have hrun:=runL_le notNl (s.data.toList.drop k);rw[List.length_drop,len_data] at hrun;obtain⟨N,hN⟩:∃ N,N=k+runL notNl (s.data.toList.drop k):=⟨_,rfl⟩;rw[←hN] at HX;have n1:k<N:=by omega
      have n2:N≤s.size:=by omega
      have b35:((s[k].toNat:Int)==35)=true:=byte_eq (n:=35) ch (by omega);have HN:=Lib.hid hN;clear hN hrun h1 h2 ch cb;go_wp2
      go_loop [6] (fun a=>∃ j:Nat,k≤j∧j≤s.size∧a= .int .i64 j∧N=j+runL notNl (s.data.toList.drop j)) (fun a=>s.size - (intOf a).toNat)
      case atStart=>exact⟨k,by omega,by omega,rfl,HN.out⟩
      case round=>
       obtain⟨j,hkj,hj,rfl,hn⟩:=hrel;have HJ:=Lib.hid hn;clear hn;by_cases e:j<s.size
       ·have hr:=runL_at notNl s j e
        by_cases c:notNl s[j]=true
        ·have HY:Hid (N=(j+1)+runL notNl (s.data.toList.drop (j+1))):=by apply Lib.hid;rw[HJ.out,hr,if_pos c];omega
         have c1:((s[j].toNat:Int) != 10)=true:=by unfold notNl at c;simpa using c
         clear hr c;go_wp2
         go_round
         case rel=>exact⟨j+1,by omega,by omega,by go_num,HY.out⟩
         case measure=>simp[intOf];omega
        ·have hjN:j=N:=by rw[HJ.out,hr,if_neg c];omega
         have c1:((s[j].toNat:Int) != 10)=false:=by unfold notNl at c;simpa using c
         clear hr c;subst hjN;go_wp2
         go_roundw
         case rel=>exact⟨_,l,n2,rfl,HX.out,HT.out,by omega⟩
         case measure=>simp[intOf];omega
       ·have hjN:j=N:=by rw[HJ.out,runL_past _ _ _ e];omega
        subst hjN;go_wp2
        go_roundw
        case rel=>exact⟨_,l,n2,rfl,HX.out,HT.out,by omega⟩
        case measure=>simp[intOf];omega
     ·have b35:((s[k].toNat:Int)==35)=false:=byte_ne (n:=35) ch (by omega)
      have hbe:=behind_no s k a cb ch;have hgo:=HGk.out;rw[hbe] at hgo;clear ch cb hbe
      rcases hp:tokR (s.data.toList.drop k) with ⟨q,x⟩ | ⟨t,q⟩
      ·have HX:Hid (R=(none,k+q,x)):=Lib.hid (by rw[←hgo,goT_bad _ (by rw[len_data];exact a) hp])
       have K:=Lib.hid (one_b s k q x a hs hp wr)
       have hx:(x != 0)=true:=by
        have:=(tokR_bad hp).2
        rcases this with h | h <;> (subst h;rfl)
       obtain⟨p,hpq⟩:∃ p,p=k+q:=⟨_,rfl⟩;rw[←hpq] at K HX;clear hp hpq hgo;go_wp2_with (go_at_call 40;((with_reducible refine(K.out).mono ?_));rintro e w1 ⟨t,A,c,rfl,hb⟩;have HB:=Lib.hid hb;clear hb)
       go_ret3
       rw[HX.out];exact⟨_,[],rfl,((HT.out.beyond HB.out).alloc _).none_,rfl⟩
      ·obtain⟨q0,q1,_⟩:=tokR_ok hp
       rw[List.length_drop,len_data] at q1;have HX:Hid (goT s.data.toList (behind s.data.toList (k+q)) (l.map (·.1)++[withPl t k])=R):=Lib.hid (by rw[←hgo,goT_ok _ (by rw[len_data];exact a) hp]);have K:=Lib.hid (one_o s k q t a hs hp wr);generalize withPl t k=t at K HX;obtain⟨p,hpq⟩:∃ p,p=k+q:=⟨_,rfl⟩;rw[←hpq] at K HX;have n3:k<p:=by omega
       have n2:p≤s.size:=by omega
       clear hp hpq q0 q1 hgo;go_wp2_with (first | (go_at_call 40;((with_reducible refine(K.out).mono ?_));rintro e w1 ⟨A,c,rfl,ho,hb⟩;have HB:=Lib.hid hb;have HO:=Lib.hid ho;clear hb ho) | (at_builtin;refine wpList_append_own _ rfl (.tmp 64) (.tmp 66) 71 rfl w.heap.size 105 i0 (.agg #[.int .i64 0,.string ⟨#[]⟩,.int .i64 0,.slice none 0 0,.int .i64 0]) 5 64 Tryz.underlying71 hi0 hz0 hz1 hz2 rfl (by decide) _ _ _ rfl (((HT.out.beyond HB.out).alloc _).alloc _).row ⟨w1.heap.size+1,0,none⟩ 1 1 [.int .i64 t.kind,.string ⟨t.word.toArray⟩,.int .i64 t.n,.slice A t.parts.length c,.int .i64 t.pl] rfl rfl (fun j u hu=>new_cellsT w1 (.cells #[.int .i64 t.kind,.string ⟨t.word.toArray⟩,.int .i64 t.n,.slice A t.parts.length c,.int .i64 t.pl] 105) 105 #[.int .i64 t.kind,.string ⟨t.word.toArray⟩,.int .i64 t.n,.slice A t.parts.length c,.int .i64 t.pl] j u hu) (five_one _ _ _ _ _ _ _) (by unfold maxLen;omega) (by omega) (((HT.out.beyond HB.out).alloc _).alloc _).size ?_;intro v2 w3 hown' hgrow _))
       go_roundw
       case rel=>
        refine⟨p,l++[(t,.slice A t.parts.length c)],n2,rfl,by rw[List.map_append];exact HX.out,(((HT.out.beyond HB.out).alloc _).alloc _).token (g:=t) (u:= .slice A t.parts.length c) ?_ hown' hgrow,by rw[List.length_append];simp;omega⟩;exact(((HO.out.mono HT.out.size).alloc _).alloc _)
       case measure=>simp[intOf];omega
   ·have HX:Hid (R=(some (l.map (·.1)),0,0)):=Lib.hid (by rw[←HGk.out,behind_end s k a,goT_end _ (by rw[len_data];exact a)])
    go_wp2
    go_ret3
    rw[HX.out];exact⟨_,l,rfl,HT.out,rfl⟩
def ReadT (w:World) (ts:List Tok) (q:Nat) (x:Int) (e:Ending) (w':World):Prop:=
 ∃ A c,e= .returned (.tuple #[.slice A ts.length c,.int .i64 q,.int .i64 x])∧RdT w'.heap.size w' A ts.length ts∧Below w.heap.size w w'
theorem postT_read {w w':World} {e:Ending} {o:Option (List Tok)} {q:Nat} {x:Int} {ts:List Tok} (ho:o.getD []=ts) (h:PostT w (o,q,x) e w'):ReadT w ts q x e w':=by
 obtain⟨v,l,he,ht,hl⟩:=h;dsimp only at hl;rw[ho] at hl;obtain⟨A,c,rfl,hr⟩:=rdt_of_own ht;have e1:l.length=ts.length:=by rw[←hl,List.length_map]
 rw[hl,e1] at hr;rw[e1] at he;exact⟨A,c,he,hr,ht.below⟩
theorem rscan_read (s:ByteArray) (hs:s.size≤4000) (o:Option (List Tok)) (q:Nat) (x:Int) (ts:List Tok) (ho:o.getD []=ts) (h:scan s.data.toList=(o,q,x)) (w:World):Calls Tryz.prog 23 #[.string s] w (ReadT w ts q x):=
 (rscan_any s hs w).mono fun e w' hp=>postT_read ho (by rw[←h];exact hp)
end Go.Proofs.YtfgcdppebeojbaaGreatDoor
