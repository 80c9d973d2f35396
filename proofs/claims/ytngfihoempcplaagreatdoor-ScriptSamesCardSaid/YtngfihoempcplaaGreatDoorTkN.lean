import Derived.Test.YtngfihoempcplaaGreatDoorPlain3
import Derived.Test.YtngfihoempcplaaGreatDoorDigits
import Derived.Test.YtngfihoempcplaaGreatDoorRPrint2
import Derived.Deep.Onto
import Derived.Test.YtngfihoempcplaaGreatDoorNBoth
import Derived.Test.YtngfihoempcplaaGreatDoorQRead
import Derived.Lib.ItoaLen
namespace Go.Proofs.YtngfihoempcplaaGreatDoor
open Go Go.RowKit
set_option maxRecDepth 100000
set_option maxHeartbeats 4000000
structure Tok where
 kind:Int
 word:Bs
 n:Int
 parts:List Pt
 pl:Int
def runL (p:UInt8→Bool):Bs→Nat
 | []=>0
 | c::r=>if p c then runL p r+1 else 0
theorem runL_cons (p:UInt8→Bool) (c:UInt8) (r:Bs):runL p (c::r)=if p c then runL p r+1 else 0:=rfl
theorem runL_le (p:UInt8→Bool):∀ l:Bs,runL p l≤l.length
 | []=>Nat.le_refl _
 | c::r=>by
   have:=runL_le p r;rw[runL_cons];split
   ·simp;omega
   ·simp
theorem runL_all (p:UInt8→Bool):∀ l:Bs,(l.take (runL p l)).all p=true
 | []=>rfl
 | c::r=>by
   have:=runL_all p r;rw[runL_cons];split
   ·rename_i h;rw[List.take_succ_cons,List.all_cons,h,this];rfl
   ·rfl
theorem runL_full (p:UInt8→Bool):∀ l:Bs,(runL p l=l.length)=(l.all p=true)
 | []=>by simp[runL]
 | c::r=>by
   have ih:=runL_full p r;rw[runL_cons,List.all_cons];by_cases h:p c=true
   ·rw[if_pos h,h,List.length_cons,Bool.true_and,←ih]
    exact propext ⟨fun e=>by omega,fun e=>by omega⟩
   ·rw[if_neg h,Bool.eq_false_iff.2 h,List.length_cons,Bool.false_and]
    exact propext ⟨fun e=>by omega,fun e=>by cases e⟩
def isBl (c:UInt8):Bool:=decide ((c.toNat:Int)=32∨(c.toNat:Int)=9∨(c.toNat:Int)=10)
def notNl (c:UInt8):Bool:=decide (¬ (c.toNat:Int)=10)
def gap:Bool→Bs→Nat
 | _,[]=>0
 | true,c::r=>gap (notNl c) r+1
 | false,c::r=>if isBl c then gap false r+1 else if c=35 then gap true r+1 else 0
theorem gap_nil (m:Bool):gap m []=0:=by cases m <;> rfl
theorem gap_true (c:UInt8) (r:Bs):gap true (c::r)=gap (notNl c) r+1:=rfl
theorem gap_false (c:UInt8) (r:Bs):gap false (c::r)=if isBl c then gap false r+1 else if c=35 then gap true r+1 else 0:=rfl
theorem gap_le:∀ (m:Bool) (l:Bs),gap m l≤l.length
 | m,[]=>by rw[gap_nil];exact Nat.le_refl _
 | true,c::r=>by rw[gap_true,List.length_cons];have:=gap_le (notNl c) r;omega
 | false,c::r=>by
   rw[gap_false,List.length_cons];have h1:=gap_le false r;have h2:=gap_le true r
   split
   ·omega
   ·split <;> omega
theorem notNl_bl (c:UInt8) (h:notNl c=false):isBl c=true:=by
 unfold notNl at h;unfold isBl;simp only[decide_not,Bool.not_eq_false',decide_eq_true_eq] at h;simp[h]
theorem gap_remark:∀ r:Bs,gap true r=runL notNl r+gap false (r.drop (runL notNl r))
 | []=>rfl
 | c::r=>by
   rw[gap_true,runL_cons];by_cases h:notNl c=true
   ·rw[if_pos h,h,gap_remark r,List.drop_succ_cons];omega
   ·have h:=Bool.eq_false_iff.2 h
    rw[h,if_neg (by decide),List.drop_zero,gap_false,if_pos (notNl_bl c h)];omega
theorem gap_hash (r:Bs):gap false (35::r)=(runL notNl (35::r))+gap false ((35::r).drop (runL notNl (35::r))):=by
 have e:runL notNl (35::r)=runL notNl r+1:=by rw[runL_cons,if_pos (by decide)]
 rw[gap_false,if_neg (by decide),if_pos rfl,e,List.drop_succ_cons,gap_remark];omega
def isWordL (w:Bs):Bool:=match w with
 | []=>false
 | c::r=>isLow c && r.all isIn && decide (r.length≤13)
def isFlagL (w:Bs):Bool:=decide (w=[105]∨w=[101,120]∨w=[103,108]∨w=[114,101])
def sgns:List Bs:=[[60,61],[62,61],[61,61],[33,61],[38,38],[124,124],[123],[125],[40],[41],[43],[45],[42],[47],[37],[60],[62],[33]]
def isSignL (w:Bs):Bool:=sgns.contains w
def signL (l:Bs):Nat:=if isSignL (l.take 2) then (l.take 2).length else if isSignL (l.take 1) then 1 else 0
def mayW (k:Int) (w:Bs):Bool:=if k=1 then isWordL w else if k=4 then isSignL w else if k=5 then isFlagL w else if k=6 then isName w else false
def okT (t:Tok):Bool:=
 if t.kind=2 then t.word.isEmpty && decide (0≤t.n) && t.parts.isEmpty
 else if t.kind=3 then t.word.isEmpty && decide (t.n=0) && may false t.parts
 else mayW t.kind t.word && decide (t.n=0) && t.parts.isEmpty
def textT (t:Tok):Bs:=
 if t.kind=2 then Lib.itoa t.n else if t.kind=3 then print t.parts else if t.kind=5 then 45::t.word else if t.kind=6 then 36::t.word else t.word
def numR (l:Bs):Int × Int:=if l.head?=some 48∧¬ l.length=1 then (0,1) else if valN l<9223372036854775808 then ((valN l:Int),0) else (0,3)
inductive TR where
 | bad (q:Nat) (e:Int) | ok (t:Tok) (q:Nat)
def wordR (k:Int) (w:Bs) (q:Nat):TR:=if mayW k w then .ok ⟨k,w,0,[],0⟩ q else .bad 0 1
def numT (l:Bs):TR:=if (numR (l.take (runL isDig l))).2=0 then .ok ⟨2,[],(numR (l.take (runL isDig l))).1,[],0⟩ (runL isDig l) else .bad 0 (numR (l.take (runL isDig l))).2
def textR (l:Bs):TR:=match parse l with
 | (none,q)=> .bad q 1
 | (some ps,q)=> .ok ⟨3,[],0,ps,0⟩ q
def lowHead (l:Bs):Bool:=match l with
 | []=>false
 | c::_=>isLow c
def tokR (l:Bs):TR:=match l with
 | []=> .bad 0 1
 | c::r=>
   if c=34 then textR l
   else if isDig c then numT l
   else if isLow c then wordR 1 (l.take (runL isIn l)) (runL isIn l)
   else if c=36 then wordR 6 (r.take (runL isIn r)) (runL isIn r+1)
   else if c=45∧lowHead r=true then wordR 5 (r.take (runL isLow r)) (runL isLow r+1)
   else wordR 4 (l.take (signL l)) (signL l)
def behind (s:Bs) (k:Nat):Nat:=k+gap false (s.drop k)
theorem behind_ge (s:Bs) (k:Nat):k≤behind s k:=by unfold behind;omega
theorem behind_le (s:Bs) (k:Nat) (h:k≤s.length):behind s k≤s.length:=by
 have:=gap_le false (s.drop k);rw[List.length_drop] at this;unfold behind;omega
def withPl (t:Tok) (k:Int):Tok:=⟨t.kind,t.word,t.n,t.parts,k⟩
def goT (s:Bs) (k:Nat) (acc:List Tok):Option (List Tok) × Nat × Int:=
 if k<s.length then (match tokR (s.drop k) with
  | .bad q e=>(none,k+q,e)
  | .ok t q=>if 0<q then goT s (behind s (k+q)) (acc++[withPl t k]) else (none,0,1))
 else (some acc,0,0)
termination_by s.length - k
decreasing_by
 have:=behind_ge s (k+q);omega
def scan (s:Bs):Option (List Tok) × Nat × Int:=if 2000<s.length then (none,2000,2) else goT s (behind s 0) []
theorem sign_cases {w:Bs} (h:isSignL w=true):w∈sgns:=by unfold isSignL at h;exact List.contains_iff_mem.1 h
theorem sign_len {w:Bs} (h:isSignL w=true):0<w.length∧w.length≤2:=by
 have h:=sign_cases h;unfold sgns at h;simp only[List.mem_cons,List.not_mem_nil,or_false] at h
 rcases h with h | h | h | h | h | h | h | h | h | h | h | h | h | h | h | h | h | h <;> (subst h;decide)
theorem sign_nil:isSignL []=false:=by decide
theorem take2_le (l:Bs):(l.take 2).length≤l.length:=by rw[List.length_take];omega
theorem signL_le (l:Bs):signL l≤l.length:=by
 unfold signL
 split
 ·exact take2_le l
 ·split
  ·rename_i h
   have:=(sign_len h).1;rw[List.length_take] at this;omega
  ·exact Nat.zero_le _
theorem signL_pos {l:Bs} (h:isSignL (l.take (signL l))=true):0<signL l:=by
 rcases Nat.eq_zero_or_pos (signL l) with e | e
 ·rw[e,List.take_zero,sign_nil] at h;cases h
 ·exact e
theorem low_in (c:UInt8) (h:isLow c=true):isIn c=true:=by unfold isIn;rw[h];rfl
theorem numR_facts (l:Bs):0≤(numR l).1∧(numR l).1≤9223372036854775807∧((numR l).2=0∨(numR l).2=1∨(numR l).2=3):=by
 unfold numR
 split
 ·exact⟨by decide,by decide,.inr (.inl rfl)⟩
 ·split
  ·rename_i h
   exact⟨Int.natCast_nonneg _,by dsimp only;omega,.inl rfl⟩
  ·exact⟨by decide,by decide,.inr (.inr rfl)⟩
theorem wordR_ok {k:Int} {w:Bs} {q q':Nat} {t:Tok} (h:wordR k w q= .ok t q'):q'=q∧t=⟨k,w,0,[],0⟩∧mayW k w=true:=by
 unfold wordR at h
 split at h
 ·rename_i hm
  injection h with h1 h2
  exact⟨h2.symm,h1.symm,hm⟩
 ·cases h
theorem wordR_bad {k:Int} {w:Bs} {q q':Nat} {e:Int} (h:wordR k w q= .bad q' e):q'=0∧e=1:=by
 unfold wordR at h
 split at h
 ·cases h
 ·injection h with h1 h2;exact⟨h1.symm,h2.symm⟩
theorem okT_word {k:Int} {w:Bs} (h2:k≠2) (h3:k≠3) (h:mayW k w=true):okT ⟨k,w,0,[],0⟩=true:=by
 unfold okT;dsimp only;rw[if_neg h2,if_neg h3,h];rfl
theorem tokR_ok {l:Bs} {t:Tok} {q:Nat} (h:tokR l= .ok t q):0<q∧q≤l.length∧okT t=true∧t.pl=0∧t.n≤9223372036854775807∧t.word.length≤l.length∧(t.parts=[]∨∃ q',parse l=(some t.parts,q')):=by
 cases l with
 | nil=>cases h
 | cons c r=>
   unfold tokR at h;dsimp only at h
   split at h
   ·unfold textR at h
    split at h
    ·cases h
    ·rename_i ps q' hp
     injection h with h1 h2
     subst h1 h2;have hb:=parse_bd (c::r);rw[hp] at hb;have hm:=parse_may (c::r) ps (by rw[hp]);refine⟨(hb.2 rfl).1,hb.1,?_,rfl,by dsimp only;omega,by simp,.inr ⟨_,hp⟩⟩;show okT ⟨3,[],0,ps,0⟩=true;unfold okT;simp[hm]
   ·split at h
    ·rename_i hd
     unfold numT at h
     split at h
     ·injection h with h1 h2
      subst h1 h2;obtain⟨n0,n1,_⟩:=numR_facts ((c::r).take (runL isDig (c::r)));refine⟨by rw[runL_cons,if_pos hd];omega,runL_le _ _,?_,rfl,n1,by simp,.inl rfl⟩;unfold okT;simp[n0]
     ·cases h
    ·split at h
     ·rename_i hl
      obtain⟨rfl,rfl,hm⟩:=wordR_ok h;exact⟨by rw[runL_cons,if_pos (low_in _ hl)];omega,runL_le _ _,okT_word (by decide) (by decide) hm,rfl,by dsimp only;omega,by dsimp only;rw[List.length_take];omega,.inl rfl⟩
     ·split at h
      ·obtain⟨rfl,rfl,hm⟩:=wordR_ok h
       have:=runL_le isIn r;exact⟨by omega,by rw[List.length_cons];omega,okT_word (by decide) (by decide) hm,rfl,by dsimp only;omega,by dsimp only;rw[List.length_take,List.length_cons];omega,.inl rfl⟩
      ·split at h
       ·obtain⟨rfl,rfl,hm⟩:=wordR_ok h
        have:=runL_le isLow r;exact⟨by omega,by rw[List.length_cons];omega,okT_word (by decide) (by decide) hm,rfl,by dsimp only;omega,by dsimp only;rw[List.length_take,List.length_cons];omega,.inl rfl⟩
       ·obtain⟨rfl,rfl,hm⟩:=wordR_ok h
        have hs:isSignL ((c::r).take (signL (c::r)))=true:=by unfold mayW at hm;simpa using hm
        exact⟨signL_pos hs,signL_le _,okT_word (by decide) (by decide) hm,rfl,by dsimp only;omega,by dsimp only;rw[List.length_take];omega,.inl rfl⟩
theorem tokR_bad {l:Bs} {e:Int} {q:Nat} (h:tokR l= .bad q e):q≤l.length∧(e=1∨e=3):=by
 cases l with
 | nil=>injection h with h1 h2;exact⟨by omega,.inl h2.symm⟩
 | cons c r=>
   unfold tokR at h;dsimp only at h
   have hw:∀ {k:Int} {w:Bs} {x:Nat},wordR k w x= .bad q e→q≤(c::r).length∧(e=1∨e=3):=by
    intro k w x h;obtain⟨rfl,rfl⟩:=wordR_bad h;exact⟨Nat.zero_le _,.inl rfl⟩
   split at h
   ·unfold textR at h
    split at h
    ·rename_i q' hp
     injection h with h1 h2
     subst h1 h2;have hb:=parse_bd (c::r);rw[hp] at hb;exact⟨hb.1,.inl rfl⟩
    ·cases h
   ·split at h
    ·unfold numT at h
     split at h
     ·cases h
     ·rename_i h0
      injection h with h1 h2
      subst h1 h2;obtain⟨_,_,n2⟩:=numR_facts ((c::r).take (runL isDig (c::r)));refine⟨Nat.zero_le _,?_⟩
      rcases n2 with n2 | n2 | n2
      ·exact absurd n2 h0
      ·exact .inl n2
      ·exact .inr n2
    ·split at h
     ·exact hw h
     ·split at h
      ·exact hw h
      ·split at h
       ·exact hw h
       ·exact hw h
theorem goT_end {s:Bs} {k:Nat} (acc:List Tok) (h:¬ k<s.length):goT s k acc=(some acc,0,0):=by rw[goT,if_neg h]
theorem goT_bad {s:Bs} {k q:Nat} {e:Int} (acc:List Tok) (h:k<s.length) (h1:tokR (s.drop k)= .bad q e):goT s k acc=(none,k+q,e):=by rw[goT,if_pos h,h1]
theorem goT_ok {s:Bs} {k q:Nat} {t:Tok} (acc:List Tok) (h:k<s.length) (h1:tokR (s.drop k)= .ok t q):goT s k acc=goT s (behind s (k+q)) (acc++[withPl t k]):=by
 rw[goT,if_pos h,h1];exact if_pos (tokR_ok h1).1
theorem goT_ind {s:Bs} (P:Nat→List Tok→Prop) (h1:∀ k acc,¬ k<s.length→P k acc) (h2:∀ k acc q e,k<s.length→tokR (s.drop k)= .bad q e→P k acc)
  (h3:∀ k acc t q,k<s.length→tokR (s.drop k)= .ok t q→0<q→k+q≤s.length→behind s (k+q)≤s.length→P (behind s (k+q)) (acc++[withPl t k])→P k acc):∀ (n k:Nat) (acc:List Tok),s.length - k<n→P k acc
 | 0,k,acc,h=>by omega
 | n+1,k,acc,h=>by
   by_cases a:k<s.length
   ·rcases ht:tokR (s.drop k) with ⟨q,e⟩ | ⟨t,q⟩
    ·exact h2 k acc q e a ht
    ·obtain⟨q0,q1,_⟩:=tokR_ok ht
     rw[List.length_drop] at q1;have hb:=behind_ge s (k+q);exact h3 k acc t q a ht q0 (by omega) (behind_le s _ (by omega)) (goT_ind P h1 h2 h3 n _ _ (by omega))
   ·exact h1 k acc a
theorem goT_all {s:Bs} (P:Nat→List Tok→Prop) (h1:∀ k acc,¬ k<s.length→P k acc) (h2:∀ k acc q e,k<s.length→tokR (s.drop k)= .bad q e→P k acc)
  (h3:∀ k acc t q,k<s.length→tokR (s.drop k)= .ok t q→0<q→k+q≤s.length→behind s (k+q)≤s.length→P (behind s (k+q)) (acc++[withPl t k])→P k acc) (k:Nat) (acc:List Tok):P k acc:=
 goT_ind P h1 h2 h3 _ k acc (Nat.lt_succ_self _)
theorem goT_cases (s:Bs) (k:Nat) (acc:List Tok):(∃ q e,goT s k acc=(none,q,e)∧(e=1∨e=3)∧q≤s.length)∨∃ out,goT s k acc=(some out,0,0):=by
 refine goT_all (s:=s) (P:=fun k acc=>(∃ q e,goT s k acc=(none,q,e)∧(e=1∨e=3)∧q≤s.length)∨∃ out,goT s k acc=(some out,0,0)) ?_ ?_ ?_ k acc
 ·intro k acc h
  exact .inr ⟨acc,goT_end acc h⟩
 ·intro k acc q e h h1
  obtain⟨a,b⟩:=tokR_bad h1;rw[List.length_drop] at a;exact .inl ⟨k+q,e,goT_bad acc h h1,b,by omega⟩
 ·intro k acc t q h h1 _ _ _ ih
  rw[goT_ok acc h h1];exact ih
structure Read1 (N:Nat) (t:Tok):Prop where
 ok:okT t=true
 n:t.n≤9223372036854775807
 word:t.word.length≤N
 parts:t.parts=[]∨∃ l q,parse l=(some t.parts,q)∧l.length≤N
theorem goT_out (s:Bs) (k:Nat) (acc:List Tok):∀ out,goT s k acc=(some out,0,0)→(∀ t∈acc,Read1 s.length t)→(∀ t∈out,Read1 s.length t)∧out.length≤acc.length+(s.length - k):=by
 refine goT_all (s:=s) (P:=fun k acc=>∀ out,goT s k acc=(some out,0,0)→(∀ t∈acc,Read1 s.length t)→(∀ t∈out,Read1 s.length t)∧out.length≤acc.length+(s.length - k)) ?_ ?_ ?_ k acc
 ·intro k acc h out ho ha
  rw[goT_end acc h] at ho;injection ho with ho _
  injection ho with ho
  subst ho;exact⟨ha,by omega⟩
 ·intro k acc q e h h1 out ho _
  rw[goT_bad acc h h1] at ho;cases ho
 ·intro k acc t q h h1 q0 q1 _ ih out ho ha
  rw[goT_ok acc h h1] at ho;obtain⟨_,_,o1,_,o3,o4,o5⟩:=tokR_ok h1;rw[List.length_drop] at o4;have hb:=behind_ge s (k+q)
  obtain⟨i1,i2⟩:=ih out ho (fun x hx=>by
   rcases List.mem_append.1 hx with hx | hx
   ·exact ha x hx
   ·rw[List.mem_singleton] at hx
    subst hx;refine⟨o1,o3,by show t.word.length≤_;omega,?_⟩
    rcases o5 with o5 | ⟨q',o5⟩
    ·exact .inl o5
    ·exact .inr ⟨_,q',o5,by rw[List.length_drop];omega⟩)
  refine⟨i1,?_⟩;rw[List.length_append] at i2;simp at i2;omega
theorem scan_cases (s:Bs):(∃ q e,scan s=(none,q,e)∧(e=1∨e=2∨e=3)∧(s.length≤2000→e≠2))∨(∃ out,scan s=(some out,0,0)∧(∀ t∈out,Read1 s.length t)∧out.length≤s.length∧s.length≤2000):=by
 unfold scan;by_cases h:2000<s.length
 ·rw[if_pos h];exact .inl ⟨_,_,rfl,.inr (.inl rfl),fun h=>by omega⟩
 ·rw[if_neg h]
  rcases goT_cases s (behind s 0) [] with ⟨q,e,h1,h2,_⟩ | ⟨out,h1⟩
  ·exact .inl ⟨q,e,h1,by omega,fun _=>by omega⟩
  ·obtain⟨a,b⟩:=goT_out s _ _ out h1 (by simp)
   simp at b;exact .inr ⟨out,h1,a,by omega,by omega⟩
theorem tdig_any (c:UInt8) (w:World):Calls Tryz.prog 48 #[.int .u8 c.toNat] w fun e w'=>e= .returned (.bool (isDig c))∧w=w':=by
 obtain⟨n,hn⟩:∃ n:Int,n=c.toNat:=⟨_,rfl⟩;have e:isDig c=decide (48≤n∧n≤57):=by rw[hn];rfl
 rw[e,←hn];clear e hn;by_cases h1:48≤n <;> by_cases h2:n≤57
 all_goals
  go_enter Tryz.func48,Tryz.ntmps48;go_wp2;go_ret;exact⟨ret_bool (by simp[h1,h2]),rfl⟩
theorem tlow_any (c:UInt8) (w:World):Calls Tryz.prog 50 #[.int .u8 c.toNat] w fun e w'=>e= .returned (.bool (isLow c))∧w=w':=by
 obtain⟨n,hn⟩:∃ n:Int,n=c.toNat:=⟨_,rfl⟩;have e:isLow c=decide (97≤n∧n≤122):=by rw[hn];rfl
 rw[e,←hn];clear e hn;by_cases h1:97≤n <;> by_cases h2:n≤122
 all_goals
  go_enter Tryz.func50,Tryz.ntmps50;go_wp2;go_ret;exact⟨ret_bool (by simp[h1,h2]),rfl⟩
theorem tin_any (c:UInt8) (w:World):Calls Tryz.prog 52 #[.int .u8 c.toNat] w fun e w'=>e= .returned (.bool (isIn c))∧w=w':=by
 have KD:=fun w=>tdig_any c w
 have KL:=fun w=>tlow_any c w
 have e:isIn c=(isLow c || isDig c || decide ((c.toNat:Int)=95)):=rfl;rw[e];clear e;generalize isDig c=d at KD ⊢;generalize isLow c=l at KL ⊢;have HD:=Lib.hid KD;have HL:=Lib.hid KL;clear KD KL;obtain⟨n,hn⟩:∃ n:Int,n=c.toNat:=⟨_,rfl⟩;rw[←hn] at HD HL ⊢;clear hn;by_cases h:n=95
 ·subst h
  cases d <;> cases l
  all_goals
   go_enter Tryz.func52,Tryz.ntmps52;go_wp2_with (first | (go_at_call 50;((with_reducible refine(HL.out _).mono ?_));rintro e w' ⟨rfl,rfl⟩) | (go_at_call 48;((with_reducible refine(HD.out _).mono ?_));rintro e w' ⟨rfl,rfl⟩));go_ret;exact⟨rfl,rfl⟩
 ·have hb:(n==95)=false:=by simpa using h
  have hd:decide (n=95)=false:=by simpa using h
  cases d <;> cases l
  all_goals
   go_enter Tryz.func52,Tryz.ntmps52;go_wp2_with (first | (go_at_call 50;((with_reducible refine(HL.out _).mono ?_));rintro e w' ⟨rfl,rfl⟩) | (go_at_call 48;((with_reducible refine(HD.out _).mono ?_));rintro e w' ⟨rfl,rfl⟩));go_ret;exact⟨ret_bool (by simp[hd]),rfl⟩
theorem tbl_any (c:UInt8) (w:World):Calls Tryz.prog 44 #[.int .u8 c.toNat] w fun e w'=>e= .returned (.bool (isBl c))∧w=w':=by
 obtain⟨n,hn⟩:∃ n:Int,n=c.toNat:=⟨_,rfl⟩;have e:isBl c=decide (n=32∨n=9∨n=10):=by rw[hn];rfl
 rw[e,←hn];clear e hn;by_cases h1:n=32
 ·subst h1
  go_enter Tryz.func44,Tryz.ntmps44;go_wp2;go_ret;exact⟨rfl,rfl⟩
 ·have b1:(n==32)=false:=by simpa using h1
  by_cases h2:n=9
  ·subst h2
   go_enter Tryz.func44,Tryz.ntmps44;go_wp2;go_ret;exact⟨rfl,rfl⟩
  ·have b2:(n==9)=false:=by simpa using h2
   by_cases h3:n=10
   ·subst h3
    go_enter Tryz.func44,Tryz.ntmps44;go_wp2;go_ret;exact⟨rfl,rfl⟩
   ·have b3:(n==10)=false:=by simpa using h3
    have hd:decide (n=32∨n=9∨n=10)=false:=by simp[h1,h2,h3]
    rw[hd];clear h1 h2 h3 hd;go_enter Tryz.func44,Tryz.ntmps44;go_wp2;go_ret;exact⟨rfl,rfl⟩
theorem tnl_any (c:UInt8) (w:World):Calls Tryz.prog 46 #[.int .u8 c.toNat] w fun e w'=>e= .returned (.bool (notNl c))∧w=w':=by
 obtain⟨n,hn⟩:∃ n:Int,n=c.toNat:=⟨_,rfl⟩;have e:notNl c=decide (¬ n=10):=by rw[hn];rfl
 rw[e,←hn];clear e hn;by_cases h1:n=10
 ·subst h1
  go_enter Tryz.func46,Tryz.ntmps46;go_wp2;go_ret;exact⟨rfl,rfl⟩
 ·have b1:(n != 10)=true:=by simpa using h1
  have hd:decide (¬ n=10)=true:=by simpa using h1
  rw[hd];clear h1 hd;go_enter Tryz.func46,Tryz.ntmps46;go_wp2;go_ret;exact⟨rfl,rfl⟩
theorem runL_at (p:UInt8→Bool) (s:ByteArray) (k:Nat) (hk:k<s.size):runL p (s.data.toList.drop k)=if p s[k] then runL p (s.data.toList.drop (k+1))+1 else 0:=by rw[drop_at s k hk,runL_cons]
theorem runL_past (p:UInt8→Bool) (s:ByteArray) (k:Nat) (hk:¬ k<s.size):runL p (s.data.toList.drop k)=0:=by rw[drop_end s k hk];rfl
theorem runend_in (s:ByteArray) (k:Nat) (hk:k≤s.size) (hs:s.size≤1000000) (w:World):
  Calls Tryz.prog 45 #[.string s,.int .i64 k,.func (.func 52) #[] #[]] w fun e w'=>e= .returned (.int .i64 ((k+runL isIn (s.data.toList.drop k):Nat):Int))∧w=w':=by
 obtain⟨N,hN⟩:∃ N,N=k+runL isIn (s.data.toList.drop k):=⟨_,rfl⟩;rw[←hN];have HN:=Lib.hid hN;clear hN;go_enter Tryz.func45,Tryz.ntmps45;go_wp2
 go_loop [1] (fun a=>∃ j:Nat,j≤s.size∧a= .int .i64 j∧N=j+runL isIn (s.data.toList.drop j)) (fun a=>s.size - (intOf a).toNat)
 case atStart=>exact⟨k,hk,rfl,HN.out⟩
 case round=>
  obtain⟨j,hj,rfl,hn⟩:=hrel;have HJ:=Lib.hid hn;clear hn;by_cases a:j<s.size
  ·have K:=Lib.hid fun w=>tin_any s[j] w
   have hr:=runL_at isIn s j a;by_cases c:isIn s[j]=true
   ·rw[c] at K
    have HX:Hid (N=(j+1)+runL isIn (s.data.toList.drop (j+1))):=by apply Lib.hid;rw[HJ.out,hr,if_pos c];omega
    clear hr c;go_wp2_with (go_at_call 52;((with_reducible refine(K.out _).mono ?_));rintro e w' ⟨rfl,rfl⟩)
    go_round
    case rel=>exact⟨j+1,by omega,by go_num,HX.out⟩
    case measure=>simp[intOf];omega
   ·rw[Bool.eq_false_iff.2 c] at K
    have HX:Hid (j=N):=by apply Lib.hid;rw[HJ.out,hr,if_neg c];omega
    clear hr c;go_wp2_with (go_at_call 52;((with_reducible refine(K.out _).mono ?_));rintro e w' ⟨rfl,rfl⟩);go_ret;exact⟨ret_int (by rw[HX.out]),rfl⟩
  ·have HX:Hid (j=N):=by apply Lib.hid;rw[HJ.out,runL_past _ _ _ a];omega
   go_wp2;go_ret;exact⟨ret_int (by rw[HX.out]),rfl⟩
theorem runend_low (s:ByteArray) (k:Nat) (hk:k≤s.size) (hs:s.size≤1000000) (w:World):
  Calls Tryz.prog 45 #[.string s,.int .i64 k,.func (.func 50) #[] #[]] w fun e w'=>e= .returned (.int .i64 ((k+runL isLow (s.data.toList.drop k):Nat):Int))∧w=w':=by
 obtain⟨N,hN⟩:∃ N,N=k+runL isLow (s.data.toList.drop k):=⟨_,rfl⟩;rw[←hN];have HN:=Lib.hid hN;clear hN;go_enter Tryz.func45,Tryz.ntmps45;go_wp2
 go_loop [1] (fun a=>∃ j:Nat,j≤s.size∧a= .int .i64 j∧N=j+runL isLow (s.data.toList.drop j)) (fun a=>s.size - (intOf a).toNat)
 case atStart=>exact⟨k,hk,rfl,HN.out⟩
 case round=>
  obtain⟨j,hj,rfl,hn⟩:=hrel;have HJ:=Lib.hid hn;clear hn;by_cases a:j<s.size
  ·have K:=Lib.hid fun w=>tlow_any s[j] w
   have hr:=runL_at isLow s j a;by_cases c:isLow s[j]=true
   ·rw[c] at K
    have HX:Hid (N=(j+1)+runL isLow (s.data.toList.drop (j+1))):=by apply Lib.hid;rw[HJ.out,hr,if_pos c];omega
    clear hr c;go_wp2_with (go_at_call 50;((with_reducible refine(K.out _).mono ?_));rintro e w' ⟨rfl,rfl⟩)
    go_round
    case rel=>exact⟨j+1,by omega,by go_num,HX.out⟩
    case measure=>simp[intOf];omega
   ·rw[Bool.eq_false_iff.2 c] at K
    have HX:Hid (j=N):=by apply Lib.hid;rw[HJ.out,hr,if_neg c];omega
    clear hr c;go_wp2_with (go_at_call 50;((with_reducible refine(K.out _).mono ?_));rintro e w' ⟨rfl,rfl⟩);go_ret;exact⟨ret_int (by rw[HX.out]),rfl⟩
  ·have HX:Hid (j=N):=by apply Lib.hid;rw[HJ.out,runL_past _ _ _ a];omega
   go_wp2;go_ret;exact⟨ret_int (by rw[HX.out]),rfl⟩
theorem runend_dig (s:ByteArray) (k:Nat) (hk:k≤s.size) (hs:s.size≤1000000) (w:World):
  Calls Tryz.prog 45 #[.string s,.int .i64 k,.func (.func 48) #[] #[]] w fun e w'=>e= .returned (.int .i64 ((k+runL isDig (s.data.toList.drop k):Nat):Int))∧w=w':=by
 obtain⟨N,hN⟩:∃ N,N=k+runL isDig (s.data.toList.drop k):=⟨_,rfl⟩;rw[←hN];have HN:=Lib.hid hN;clear hN;go_enter Tryz.func45,Tryz.ntmps45;go_wp2
 go_loop [1] (fun a=>∃ j:Nat,j≤s.size∧a= .int .i64 j∧N=j+runL isDig (s.data.toList.drop j)) (fun a=>s.size - (intOf a).toNat)
 case atStart=>exact⟨k,hk,rfl,HN.out⟩
 case round=>
  obtain⟨j,hj,rfl,hn⟩:=hrel;have HJ:=Lib.hid hn;clear hn;by_cases a:j<s.size
  ·have K:=Lib.hid fun w=>tdig_any s[j] w
   have hr:=runL_at isDig s j a;by_cases c:isDig s[j]=true
   ·rw[c] at K
    have HX:Hid (N=(j+1)+runL isDig (s.data.toList.drop (j+1))):=by apply Lib.hid;rw[HJ.out,hr,if_pos c];omega
    clear hr c;go_wp2_with (go_at_call 48;((with_reducible refine(K.out _).mono ?_));rintro e w' ⟨rfl,rfl⟩)
    go_round
    case rel=>exact⟨j+1,by omega,by go_num,HX.out⟩
    case measure=>simp[intOf];omega
   ·rw[Bool.eq_false_iff.2 c] at K
    have HX:Hid (j=N):=by apply Lib.hid;rw[HJ.out,hr,if_neg c];omega
    clear hr c;go_wp2_with (go_at_call 48;((with_reducible refine(K.out _).mono ?_));rintro e w' ⟨rfl,rfl⟩);go_ret;exact⟨ret_int (by rw[HX.out]),rfl⟩
  ·have HX:Hid (j=N):=by apply Lib.hid;rw[HJ.out,runL_past _ _ _ a];omega
   go_wp2;go_ret;exact⟨ret_int (by rw[HX.out]),rfl⟩
theorem runend_nl (s:ByteArray) (k:Nat) (hk:k≤s.size) (hs:s.size≤1000000) (w:World):
  Calls Tryz.prog 45 #[.string s,.int .i64 k,.func (.func 46) #[] #[]] w fun e w'=>e= .returned (.int .i64 ((k+runL notNl (s.data.toList.drop k):Nat):Int))∧w=w':=by
 obtain⟨N,hN⟩:∃ N,N=k+runL notNl (s.data.toList.drop k):=⟨_,rfl⟩;rw[←hN];have HN:=Lib.hid hN;clear hN;go_enter Tryz.func45,Tryz.ntmps45;go_wp2
 go_loop [1] (fun a=>∃ j:Nat,j≤s.size∧a= .int .i64 j∧N=j+runL notNl (s.data.toList.drop j)) (fun a=>s.size - (intOf a).toNat)
 case atStart=>exact⟨k,hk,rfl,HN.out⟩
 case round=>
  obtain⟨j,hj,rfl,hn⟩:=hrel;have HJ:=Lib.hid hn;clear hn;by_cases a:j<s.size
  ·have K:=Lib.hid fun w=>tnl_any s[j] w
   have hr:=runL_at notNl s j a;by_cases c:notNl s[j]=true
   ·rw[c] at K
    have HX:Hid (N=(j+1)+runL notNl (s.data.toList.drop (j+1))):=by apply Lib.hid;rw[HJ.out,hr,if_pos c];omega
    clear hr c;go_wp2_with (go_at_call 46;((with_reducible refine(K.out _).mono ?_));rintro e w' ⟨rfl,rfl⟩)
    go_round
    case rel=>exact⟨j+1,by omega,by go_num,HX.out⟩
    case measure=>simp[intOf];omega
   ·rw[Bool.eq_false_iff.2 c] at K
    have HX:Hid (j=N):=by apply Lib.hid;rw[HJ.out,hr,if_neg c];omega
    clear hr c;go_wp2_with (go_at_call 46;((with_reducible refine(K.out _).mono ?_));rintro e w' ⟨rfl,rfl⟩);go_ret;exact⟨ret_int (by rw[HX.out]),rfl⟩
  ·have HX:Hid (j=N):=by apply Lib.hid;rw[HJ.out,runL_past _ _ _ a];omega
   go_wp2;go_ret;exact⟨ret_int (by rw[HX.out]),rfl⟩
theorem not_list {s:ByteArray} {l:Bs} (h:¬ s.data.toList=l):(s.toList==l)=false:=by rw[toList_data];simpa using h
theorem issign_any (s:ByteArray) (w:World):Calls Tryz.prog 98 #[.string s] w fun e w'=>e= .returned (.bool (isSignL s.data.toList))∧w=w':=by
 by_cases h:isSignL s.data.toList=true
 ·rw[h]
  have hm:=sign_cases h;clear h;unfold sgns at hm;simp only[List.mem_cons,List.not_mem_nil,or_false] at hm
  rcases hm with h | h | h | h | h | h | h | h | h | h | h | h | h | h | h | h | h | h
  all_goals
   obtain rfl:=ba_eq s _ h;clear h;go_enter Tryz.func98,Tryz.ntmps98;go_wp2;go_ret;exact⟨rfl,rfl⟩
 ·have h:=Bool.eq_false_iff.2 h
  rw[h]
  have hn:∀ x∈sgns,¬ s.data.toList=x:=fun x hx e=>by
   rw[e] at h;unfold isSignL at h;rw[List.contains_iff_mem.2 hx] at h;cases h
  have n0:=not_list (hn [60,61] (by decide));have n1:=not_list (hn [62,61] (by decide));have n2:=not_list (hn [61,61] (by decide));have n3:=not_list (hn [33,61] (by decide));have n4:=not_list (hn [38,38] (by decide));have n5:=not_list (hn [124,124] (by decide));have n6:=not_list (hn [123] (by decide));have n7:=not_list (hn [125] (by decide));have n8:=not_list (hn [40] (by decide));have n9:=not_list (hn [41] (by decide));have n10:=not_list (hn [43] (by decide));have n11:=not_list (hn [45] (by decide));have n12:=not_list (hn [42] (by decide));have n13:=not_list (hn [47] (by decide));have n14:=not_list (hn [37] (by decide));have n15:=not_list (hn [60] (by decide));have n16:=not_list (hn [62] (by decide));have n17:=not_list (hn [33] (by decide));clear hn h;go_enter Tryz.func98,Tryz.ntmps98;go_wp2;go_ret;exact⟨rfl,rfl⟩
theorem isflag_any (s:ByteArray) (w:World):Calls Tryz.prog 129 #[.string s] w fun e w'=>e= .returned (.bool (isFlagL s.data.toList))∧w=w':=by
 by_cases h:isFlagL s.data.toList=true
 ·rw[h]
  unfold isFlagL at h
  rcases of_decide_eq_true h with h | h | h | h
  all_goals
   obtain rfl:=ba_eq s _ h;clear h;go_enter Tryz.func129,Tryz.ntmps129;go_wp2;go_ret;exact⟨rfl,rfl⟩
 ·have h:=Bool.eq_false_iff.2 h
  rw[h];unfold isFlagL at h;have h:=of_decide_eq_false h;have n0:=not_list (fun e=>h (.inl e));have n1:=not_list (fun e=>h (.inr (.inl e)));have n2:=not_list (fun e=>h (.inr (.inr (.inl e))));have n3:=not_list (fun e=>h (.inr (.inr (.inr e))));clear h;go_enter Tryz.func129,Tryz.ntmps129;go_wp2;go_ret;exact⟨rfl,rfl⟩
theorem isWordL_at (s:ByteArray) (h:0<s.size):isWordL s.data.toList=(isLow s[0] && decide (1+runL isIn (s.data.toList.drop 1)=s.size) && decide (s.size≤14)):=by
 have hl:=len_data s;have hf:=runL_full isIn (s.data.toList.drop 1);have hd:=drop_at s 0 h;rw[drop0] at hd;rw[hd] at hl;rw[List.length_cons,List.length_drop,len_data] at hl;rw[List.length_drop,len_data] at hf
 conv=>lhs;rw[hd]
 show (isLow s[0] && (s.data.toList.drop 1).all isIn && decide ((s.data.toList.drop (0+1)).length≤13))=_;rw[Nat.zero_add,List.length_drop,len_data]
 congr 1
 ·congr 1
  rw[Bool.eq_iff_iff,decide_eq_true_iff,←hf];omega
 ·rw[Bool.eq_iff_iff,decide_eq_true_iff,decide_eq_true_iff];omega
theorem runend_in1 (s:ByteArray) (h:0<s.size) (hs:s.size≤1000000) (w:World):
 Calls Tryz.prog 45 #[.string s,.int .i64 1,.func (.func 52) #[] #[]] w fun e w'=>e= .returned (.int .i64 ((1+runL isIn (s.data.toList.drop 1):Nat):Int))∧w=w':=runend_in s 1 h hs w
theorem isword_any (s:ByteArray) (w:World):Calls Tryz.prog 128 #[.string s] w fun e w'=>e= .returned (.bool (isWordL s.data.toList))∧w=w':=by
 by_cases h0:0<s.size
 ·rw[isWordL_at s h0]
  have he:=isEmpty_f s h0;have he2:¬ s.toList=[]:=by intro e;rw[e] at he;cases he
  by_cases h14:s.size≤14
  ·rw[decide_eq_true h14,Bool.and_true]
   have KL:=Lib.hid fun w=>tlow_any s[0] w
   have KR:=Lib.hid fun w=>runend_in1 s h0 (by omega) w
   generalize isLow s[0]=l at KL ⊢;generalize runL isIn (s.data.toList.drop 1)=R at KR ⊢
   cases l
   ·go_enter Tryz.func128,Tryz.ntmps128
    go_wp2_with (go_at_call 50;((with_reducible refine(KL.out _).mono ?_));rintro e w' ⟨rfl,rfl⟩);go_ret;exact⟨rfl,rfl⟩
   ·rw[Bool.true_and]
    obtain⟨q,hq⟩:∃ q:Nat,q=1+R:=⟨_,rfl⟩;rw[←hq] at KR ⊢;clear hq;by_cases hc:q=s.size
    ·rw[decide_eq_true hc]
     rw[hc] at KR;clear hc;go_enter Tryz.func128,Tryz.ntmps128;go_wp2_with (first | (go_at_call 50;((with_reducible refine(KL.out _).mono ?_));rintro e w' ⟨rfl,rfl⟩) | (go_at_call 45;((with_reducible refine(KR.out _).mono ?_));rintro e w' ⟨rfl,rfl⟩));go_ret;exact⟨rfl,rfl⟩
    ·rw[decide_eq_false hc]
     have hb:((q:Int)==(s.size:Int))=false:=by simp;omega
     have hb2:(q==s.size)=false:=by simpa using hc
     clear hc;go_enter Tryz.func128,Tryz.ntmps128;go_wp2_with (first | (go_at_call 50;((with_reducible refine(KL.out _).mono ?_));rintro e w' ⟨rfl,rfl⟩) | (go_at_call 45;((with_reducible refine(KR.out _).mono ?_));rintro e w' ⟨rfl,rfl⟩));go_ret;exact⟨rfl,rfl⟩
  ·rw[decide_eq_false h14,Bool.and_false]
   go_enter Tryz.func128,Tryz.ntmps128;go_wp2;go_ret;exact⟨rfl,rfl⟩
 ·have e:=isEmpty_t s h0
  have he:s.toList.isEmpty=true:=by rw[toList_data,e];rfl
  have he2:s.toList=[]:=by rw[toList_data,e]
  rw[e];clear e;go_enter Tryz.func128,Tryz.ntmps128;go_wp2;go_ret;exact⟨rfl,rfl⟩
theorem mayhave_any (k:Int) (s:ByteArray) (hs:s.size≤4611686018427387904) (w:World):Calls Tryz.prog 97 #[.int .i64 k,.string s] w fun e w'=>e= .returned (.bool (mayW k s.data.toList))∧w=w':=by
 unfold mayW;have K1:=Lib.hid fun w=>isword_any s w
 have K4:=Lib.hid fun w=>issign_any s w
 have K5:=Lib.hid fun w=>isflag_any s w
 have K6:=Lib.hid fun w=>name_any s hs w
 generalize isWordL s.data.toList=x1 at K1 ⊢;generalize isSignL s.data.toList=x4 at K4 ⊢;generalize isFlagL s.data.toList=x5 at K5 ⊢;generalize isName s.data.toList=x6 at K6 ⊢;by_cases h1:k=1
 ·subst h1
  rw[if_pos rfl];go_enter Tryz.func97,Tryz.ntmps97;go_wp2_with (go_at_call 128;((with_reducible refine(K1.out _).mono ?_));rintro e w' ⟨rfl,rfl⟩);go_ret;exact⟨rfl,rfl⟩
 ·rw[if_neg h1]
  have b1:(k==1)=false:=by simpa using h1
  clear h1;by_cases h4:k=4
  ·subst h4
   rw[if_pos rfl];go_enter Tryz.func97,Tryz.ntmps97;go_wp2_with (go_at_call 98;((with_reducible refine(K4.out _).mono ?_));rintro e w' ⟨rfl,rfl⟩);go_ret;exact⟨rfl,rfl⟩
  ·rw[if_neg h4]
   have b4:(k==4)=false:=by simpa using h4
   clear h4;by_cases h5:k=5
   ·subst h5
    rw[if_pos rfl];go_enter Tryz.func97,Tryz.ntmps97;go_wp2_with (go_at_call 129;((with_reducible refine(K5.out _).mono ?_));rintro e w' ⟨rfl,rfl⟩);go_ret;exact⟨rfl,rfl⟩
   ·rw[if_neg h5]
    have b5:(k==5)=false:=by simpa using h5
    clear h5;by_cases h6:k=6
    ·subst h6
     rw[if_pos rfl];go_enter Tryz.func97,Tryz.ntmps97;go_wp2_with (go_at_call 99;((with_reducible refine(K6.out _).mono ?_));rintro e w' ⟨rfl,rfl⟩);go_ret;exact⟨rfl,rfl⟩
    ·rw[if_neg h6]
     have b6:(k==6)=false:=by simpa using h6
     clear h6;go_enter Tryz.func97,Tryz.ntmps97;go_wp2;go_ret;exact⟨rfl,rfl⟩
theorem gap_at_bl (s:ByteArray) (j:Nat) (h:j<s.size) (c:isBl s[j]=true):gap false (s.data.toList.drop j)=gap false (s.data.toList.drop (j+1))+1:=by rw[drop_at s j h,gap_false,if_pos c]
theorem gap_at_hash (s:ByteArray) (j:Nat) (h:j<s.size) (c:s[j]=35):gap false (s.data.toList.drop j)=runL notNl (s.data.toList.drop j)+gap false (s.data.toList.drop (j+runL notNl (s.data.toList.drop j)))∧0<runL notNl (s.data.toList.drop j):=by
 have e:s.data.toList.drop j=35::s.data.toList.drop (j+1):=by rw[drop_at s j h,c]
 have hg:=gap_hash (s.data.toList.drop (j+1));rw[←e,List.drop_drop] at hg;refine⟨hg,?_⟩;rw[e,runL_cons,if_pos (by decide)];omega
theorem gap_at_no (s:ByteArray) (j:Nat) (h:j<s.size) (c:¬ isBl s[j]=true) (d:s[j]≠35):gap false (s.data.toList.drop j)=0:=by rw[drop_at s j h,gap_false,if_neg c,if_neg d]
theorem gap_at_end (s:ByteArray) (j:Nat) (h:¬ j<s.size):gap false (s.data.toList.drop j)=0:=by rw[drop_end s j h];rfl
theorem behind_any (s:ByteArray) (k:Nat) (hk:k≤s.size) (hs:s.size≤1000000) (w:World):
  Calls Tryz.prog 29 #[.string s,.int .i64 k] w fun e w'=>e= .returned (.int .i64 (behind s.data.toList k))∧w=w':=by
 obtain⟨N,hN⟩:∃ N,N=behind s.data.toList k:=⟨_,rfl⟩;rw[←hN];unfold behind at hN;have HN:=Lib.hid hN;clear hN;go_enter Tryz.func29,Tryz.ntmps29;go_wp2
 go_loop [1] (fun a=>∃ j:Nat,j≤s.size∧a= .int .i64 j∧N=j+gap false (s.data.toList.drop j)) (fun a=>s.size - (intOf a).toNat)
 case atStart=>exact⟨k,hk,rfl,HN.out⟩
 case round=>
  obtain⟨j,hj,rfl,hn⟩:=hrel;have HJ:=Lib.hid hn;clear hn;by_cases a:j<s.size
  ·have K:=Lib.hid fun w=>tbl_any s[j] w
   by_cases c:isBl s[j]=true
   ·have hr:=gap_at_bl s j a c
    rw[c] at K;have HX:Hid (N=(j+1)+gap false (s.data.toList.drop (j+1))):=by apply Lib.hid;rw[HJ.out,hr];omega
    clear hr c;go_wp2_with (go_at_call 44;((with_reducible refine(K.out _).mono ?_));rintro e w' ⟨rfl,rfl⟩)
    go_round
    case rel=>exact⟨j+1,by omega,by go_num,HX.out⟩
    case measure=>simp[intOf];omega
   ·by_cases d:s[j]=35
    ·obtain⟨hr,h0⟩:=gap_at_hash s j a d
     have b35:((s[j].toNat:Int)==35)=true:=byte_eq (n:=35) d (by omega);have KR:=Lib.hid fun w=>runend_nl s j hj hs w
     have hle:=runL_le notNl (s.data.toList.drop j);rw[List.length_drop,len_data] at hle;rw[Bool.eq_false_iff.2 c] at K;generalize runL notNl (s.data.toList.drop j)=r at KR hr h0 hle;obtain⟨q,hq⟩:∃ q,q=j+r:=⟨_,rfl⟩;have HX:Hid (N=q+gap false (s.data.toList.drop q)):=by apply Lib.hid;rw[HJ.out,hr,hq];omega
     rw[←hq] at KR;have q1:j<q:=by omega
     have q2:q≤s.size:=by omega
     clear hr c d hq h0 hle;go_wp2_with (first | (go_at_call 44;((with_reducible refine(K.out _).mono ?_));rintro e w' ⟨rfl,rfl⟩) | (go_at_call 45;((with_reducible refine(KR.out _).mono ?_));rintro e w' ⟨rfl,rfl⟩))
     go_round
     case rel=>exact⟨q,q2,rfl,HX.out⟩
     case measure=>simp[intOf];omega
    ·have hr:=gap_at_no s j a c d
     have b35:((s[j].toNat:Int)==35)=false:=byte_ne (n:=35) d (by omega);rw[Bool.eq_false_iff.2 c] at K;have HX:Hid (j=N):=by apply Lib.hid;rw[HJ.out,hr];omega
     clear hr c d;go_wp2_with (go_at_call 44;((with_reducible refine(K.out _).mono ?_));rintro e w' ⟨rfl,rfl⟩);go_ret;exact⟨ret_int (by rw[HX.out]),rfl⟩
  ·have HX:Hid (j=N):=by apply Lib.hid;rw[HJ.out,gap_at_end _ _ a];omega
   go_wp2;go_ret;exact⟨ret_int (by rw[HX.out]),rfl⟩
def sgD (l:Bs):Nat→Nat
 | 0=>0
 | n+1=>if isSignL (l.take (n+1)) then n+1 else sgD l n
theorem signL_sgD (l:Bs):signL l=sgD l (min 2 l.length):=by
 rcases l with _ | ⟨a,_ | ⟨b,r⟩⟩
 ·rfl
 ·have e:min 2 ([a]:Bs).length=1:=rfl
  rw[e];show (if isSignL [a] then 1 else if isSignL [a] then 1 else 0)=if isSignL [a] then 1 else 0
  split <;> rfl
 ·have e:min 2 (a::b::r:Bs).length=2:=by simp
  rw[e]
  rfl
theorem ext_data (s:ByteArray) (a n:Nat):(s.extract a (a+n)).data.toList=(s.data.toList.drop a).take n:=by rw[ba_take]
theorem signend_any (s:ByteArray) (k:Nat) (hk:k<s.size) (hs:s.size≤1000000) (w:World):
  Calls Tryz.prog 53 #[.string s,.int .i64 k] w fun e w'=>e= .returned (.int .i64 ((k+signL (s.data.toList.drop k):Nat):Int))∧w=w':=by
 obtain⟨N,hN⟩:∃ N,N=k+signL (s.data.toList.drop k):=⟨_,rfl⟩;rw[←hN];rw[signL_sgD,List.length_drop,len_data] at hN;obtain⟨m,hm⟩:∃ m,m=min 2 (s.size - k):=⟨_,rfl⟩;rw[←hm] at hN;have m1:m≤2:=by omega
 have m2:k+m≤s.size:=by omega
 have hmin:min ((k:Int)+2) (s.size:Int)=((k+m:Nat):Int):=by omega
 have HN:=Lib.hid hN;clear hN hm;go_enter Tryz.func53,Tryz.ntmps53;go_wp2
 go_loop [5] (fun a=>∃ j:Nat,j≤2∧k+j≤s.size∧a= .int .i64 ((k+j:Nat):Int)∧N=k+sgD (s.data.toList.drop k) j) (fun a=>(intOf a).toNat - k)
 case atStart=>exact⟨m,m1,m2,by go_num,HN.out⟩
 case round=>
  obtain⟨j,j2,hj,rfl,hn⟩:=hrel
  cases j with
  | zero=>
    have HX:Hid (k=N):=Lib.hid (by rw[hn];rfl);clear hn;go_wp2;go_ret;exact⟨ret_int (by rw[HX.out]),rfl⟩
  | succ j=>
    have K:=Lib.hid fun w=>issign_any (s.extract k (k+(j+1))) w
    rw[ext_data] at K;have hstep:sgD (s.data.toList.drop k) (j+1)=if isSignL ((s.data.toList.drop k).take (j+1)) then j+1 else sgD (s.data.toList.drop k) j:=rfl
    rw[hstep] at hn;clear hstep;obtain⟨q,hq⟩:∃ q,q=k+(j+1):=⟨_,rfl⟩;have q1:k<q:=by omega
    have HQ:=Lib.hid hq;rw[←hq] at K hj ⊢;generalize isSignL ((s.data.toList.drop k).take (j+1))=b at K hn
    cases b
    ·have HX:Hid (N=k+sgD (s.data.toList.drop k) j):=Lib.hid hn
     clear hn hq;go_wp2_with (go_at_call 98;((with_reducible refine(K.out _).mono ?_));rintro e w' ⟨rfl,rfl⟩)
     go_round
     case rel=>exact⟨j,by omega,by have:=HQ.out;omega,by have:=HQ.out;congr 1;omega,HX.out⟩
     case measure=>have:=HQ.out;simp[intOf];omega
    ·have HX:Hid (q=N):=Lib.hid (by rw[hn,hq];rfl)
     clear hn hq;go_wp2_with (go_at_call 98;((with_reducible refine(K.out _).mono ?_));rintro e w' ⟨rfl,rfl⟩);go_ret;exact⟨ret_int (by rw[HX.out]),rfl⟩
theorem bcell {W w1:World} (hb:Below W.heap.size W w1):(∀ b o,b<W.heap.size→w1.cell? ⟨b,o,none⟩=W.cell? ⟨b,o,none⟩)∧(∀ b o,b<W.heap.size→w1.frozen? ⟨b,o,none⟩=W.frozen? ⟨b,o,none⟩):=
 ⟨fun b o h=>hb.cell (p:=⟨b,o,none⟩) h,fun b o h=>hb.frozen (p:=⟨b,o,none⟩) h⟩
theorem size_le {w w1:World} {o:Obj} (hb:Below (w.alloc o).heap.size (w.alloc o) w1):w.heap.size+1≤w1.heap.size:=by
 have:=hb.size;simp at this;omega
theorem own_set {w:World} {B T s n:Nat} {v:Value} {xs:List Value} (h:w.ownsRow B T s v n xs) {p:Addr} (hlt:p.block<B) (u:Value):(w.setCell p u).ownsRow B T s v n xs:=by
 refine h.kept (w':=w.setCell p u) (row:=some p.block) ⟨rfl,rfl,rfl,by simp,fun k _ hk=>Below.heap_setCell w p u k (fun e=>hk (by rw[e]))⟩ ?_
 rcases hv:v.ownBlock with _ | b
 ·exact .inl rfl
 ·right
  have:=(h.lt b hv).1;intro e;injection e with e
  omega
abbrev put5 (w:World) (b:Nat) (u0 u1 u2 u3 u4:Value):World:=((((w.setCell ⟨b,0,none⟩ u0).setCell ⟨b,1,none⟩ u1).setCell ⟨b,2,none⟩ u2).setCell ⟨b,3,none⟩ u3).setCell ⟨b,4,none⟩ u4
theorem box5_below {w w1:World} {o:Obj} (hb:Below (w.alloc o).heap.size (w.alloc o) w1) (u0 u1 u2 u3 u4:Value):Below w.heap.size w (put5 w1 w.heap.size u0 u1 u2 u3 u4):=by
 have e:(w.alloc o).heap.size=w.heap.size+1:=by simp
 exact((((((((Below.refl _ _).alloc (Nat.le_refl _) o).trans (hb.mono (by omega))).setCell (Nat.le_refl _) u0).setCell (Nat.le_refl _) u1).setCell (Nat.le_refl _) u2).setCell (Nat.le_refl _) u3).setCell (Nat.le_refl _) u4)
theorem box5_own {w w1:World} {o:Obj} {T s n:Nat} {v:Value} {xs:List Value} (h:w1.ownsRow (w.alloc o).heap.size T s v n xs) (u0 u1 u2 u3 u4:Value):(put5 w1 w.heap.size u0 u1 u2 u3 u4).ownsRow w.heap.size T s v n xs:=by
 have e:(w.alloc o).heap.size=w.heap.size+1:=by simp
 have hlt:∀ j,(⟨w.heap.size,j,none⟩:Addr).block<(w.alloc o).heap.size:=fun j=>by rw[e];exact Nat.lt_succ_self _
 exact World.ownsRow.mono (own_set (own_set (own_set (own_set (own_set h (hlt 0) u0) (hlt 1) u1) (hlt 2) u2) (hlt 3) u3) (hlt 4) u4) (by omega)
theorem tclone_any (s:ByteArray) (h:s.size≤281474976710656) (w:World):Calls Tryz.prog 89 #[.string s] w fun e w'=>e= .returned (.string s)∧Below w.heap.size w w':=clone_any s h w
def resW (b:Bool) (k:Int) (W:ByteArray) (at' to':Int):Value:=if b then .tuple #[.agg #[.int .i64 k,.string W,.int .i64 0,.slice none 0 0,.int .i64 0],.int .i64 to',.int .i64 0] else .tuple #[.agg #[.int .i64 0,.string ⟨#[]⟩,.int .i64 0,.slice none 0 0,.int .i64 0],.int .i64 at',.int .i64 1]
theorem readword_any (s:ByteArray) (k f n:Nat) (kd:Int) (hf:f+n≤s.size) (hs:s.size≤1000000) (w:World):
  Calls Tryz.prog 51 #[.string s,.int .i64 k,.int .i64 kd,.int .i64 f,.int .i64 ((f+n:Nat):Int)] w fun e w'=>e= .returned (resW (mayW kd ((s.data.toList.drop f).take n)) kd (s.extract f (f+n)) k ((f+n:Nat):Int))∧Below w.heap.size w w':=by
 have hx:(s.extract f (f+n)).size≤1000000:=by
  rw[←len_data,ext_data,List.length_take,List.length_drop,len_data];omega
 have K:=Lib.hid fun w=>mayhave_any kd (s.extract f (f+n)) (by omega) w
 have KC:=Lib.hid fun w=>clone_any (s.extract f (f+n)) (by omega) w
 rw[ext_data] at K;generalize mayW kd ((s.data.toList.drop f).take n)=b at K ⊢;obtain⟨q,hq⟩:∃ q,q=f+n:=⟨_,rfl⟩;rw[←hq] at K KC hf ⊢;have q1:f≤q:=by omega
 clear hq hx
 cases b
 ·go_enter Tryz.func51,Tryz.ntmps51
  go_wp2_with (go_at_call 97;((with_reducible refine(K.out _).mono ?_));rintro e w' ⟨rfl,rfl⟩);exact bodyPost_ret (v:=resW false kd (s.extract f q) k q) (by simp[results,Tryz.results51,go_sem,resW]) rfl ⟨rfl,(Below.refl _ _).alloc (Nat.le_refl _) _⟩
 ·go_enter Tryz.func51,Tryz.ntmps51
  go_wp2_with (first | (go_at_call 97;((with_reducible refine(K.out _).mono ?_));rintro e w' ⟨rfl,rfl⟩) | (go_at_call 89;((with_reducible refine(KC.out _).mono ?_));rintro e w' ⟨rfl,hb⟩;obtain⟨hc,hfz⟩:=bcell hb;have hz:=size_le hb;have HB:=Lib.hid hb;clear hb));exact bodyPost_ret (v:=resW true kd (s.extract f q) k q) (by simp[results,Tryz.results51,go_sem,resW,hc]) rfl ⟨rfl,box5_below HB.out _ _ _ _ _⟩
theorem dig_ne45 (c:UInt8) (h:isDig c=true):¬ c=45:=by rintro rfl;revert h;decide
theorem numR_spec (l:Bs) (h:l.all isDig=true) (h0:l≠[]):specL l (numR l).1 (numR l).2:=by
 cases l with
 | nil=>exact absurd rfl h0
 | cons c r=>
   have hc:¬ c=45:=dig_ne45 c (by rw[List.all_cons,Bool.and_eq_true] at h;exact h.1);have hd:(c::r).all digB=true:=by rw[←isD_fun];exact h
   have hf:formL (c::r)=if c=48 then r.isEmpty else true:=by
    rw[form_other c r hc];unfold formD;dsimp only
    split
    ·simp
    ·exact h
   have h48n:¬ c=48→numR (c::r)=if valN (c::r)<9223372036854775808 then ((valN (c::r):Int),0) else (0,3):=fun h=>by
    unfold numR;rw[if_neg (by rintro⟨e,_⟩;injection e with e;exact h e)]
   unfold specL;by_cases h48:c=48
   ·rw[if_pos h48] at hf
    cases r with
    | nil=>
      subst h48;have hn:numR [48]=(0,0):=by decide
      rw[hf,neg_other _ _ hc,dig_other _ _ hc,hn];unfold specD;rw[if_pos (show ([]:Bs).isEmpty=true from rfl),if_pos hd];exact⟨0,rfl,by decide⟩
    | cons d r=>
      have hn:numR (c::d::r)=(0,1):=by
       unfold numR;rw[if_pos ⟨by rw[h48];rfl,by simp⟩]
      rw[hf,hn,if_neg (by simp)];exact⟨rfl,rfl⟩
   ·rw[if_neg h48] at hf
    rw[hf,if_pos rfl,neg_other c r hc,dig_other c r hc,h48n h48];unfold specD;rw[if_pos hd];refine⟨(valN (c::r):Int),rfl,?_⟩;by_cases hv:valN (c::r)<9223372036854775808
    ·rw[if_pos hv,if_pos (by omega)];exact⟨rfl,rfl⟩
    ·rw[if_neg hv,if_neg (by omega)];exact⟨rfl,rfl⟩
def tokV (t:Tok) (v:Value):Value:= .agg #[.int .i64 t.kind,.string ⟨t.word.toArray⟩,.int .i64 t.n,v,.int .i64 t.pl]
abbrev OwnP (B:Nat) (w:World) (v:Value) (ps:List Pt):Prop:=w.ownsRow B 81 2 v ps.length (cellsP ps)
def posR (k:Nat) (R:TR):Nat:=match R with | .bad q _=>k+q | .ok _ q=>k+q
def errR (R:TR):Int:=match R with | .bad _ e=>e | .ok _ _=>0
def PostR (w0:World) (k:Nat) (R:TR) (e:Ending) (w':World):Prop:=
 ∃ (t:Tok) (v:Value),e= .returned (.tuple #[tokV t v,.int .i64 (posR k R),.int .i64 (errR R)])∧OwnP w0.heap.size w' v t.parts∧Below w0.heap.size w0 w'∧∀ t' q,R= .ok t' q→t'=t
theorem ext_eq (s:ByteArray) (a n:Nat):s.extract a (a+n)=⟨((s.data.toList.drop a).take n).toArray⟩:=ba_take s a n
theorem resW_post {w w':World} {s:ByteArray} {k f n q:Nat} {kd:Int} (hb:Below w.heap.size w w') (hq:f+n=k+q):
  PostR w k (wordR kd ((s.data.toList.drop f).take n) q) (.returned (resW (mayW kd ((s.data.toList.drop f).take n)) kd (s.extract f (f+n)) k ((f+n:Nat):Int))) w':=by
 unfold wordR;by_cases h:mayW kd ((s.data.toList.drop f).take n)=true
 ·rw[if_pos h,h,ext_eq,hq]
  exact⟨⟨kd,(s.data.toList.drop f).take n,0,[],0⟩,.slice none 0 0,rfl,World.ownsRow_nil _ _ _ _,hb,fun t' q h=>by injection h with h _;exact h.symm⟩
 ·have hf:=Bool.eq_false_iff.2 h
  rw[if_neg h,hf];exact⟨⟨0,[],0,[],0⟩,.slice none 0 0,by simp[resW,tokV,posR,errR],World.ownsRow_nil _ _ _ _,hb,fun t' q h=>by cases h⟩
theorem numT_cases (l:Bs):numT l=if (numR (l.take (runL isDig l))).2=0 then .ok ⟨2,[],(numR (l.take (runL isDig l))).1,[],0⟩ (runL isDig l) else .bad 0 (numR (l.take (runL isDig l))).2:=rfl
theorem readnumber_any (s:ByteArray) (k:Nat) (hk:k<s.size) (hd:isDig s[k]=true) (hs:s.size≤4000) (w:World) (hG:Given w):
  Calls Tryz.prog 49 #[.string s,.int .i64 k] w (PostR w k (numT (s.data.toList.drop k))):=by
 have KR:=Lib.hid fun w=>runend_dig s k (by omega) (by omega) w
 have hrun:=runL_le isDig (s.data.toList.drop k);have hall:=runL_all isDig (s.data.toList.drop k);have h0:0<runL isDig (s.data.toList.drop k):=by rw[runL_at isDig s k hk,if_pos hd];omega
 rw[List.length_drop,len_data] at hrun;rw[numT_cases];generalize runL isDig (s.data.toList.drop k)=n at KR hrun hall h0 ⊢
 have hx:(s.extract k (k+n)).size≤4000:=by
  rw[←len_data,ext_data,List.length_take,List.length_drop,len_data];omega
 have hne:(s.data.toList.drop k).take n≠[]:=by
  intro e;have:=congrArg List.length e;rw[List.length_take,List.length_drop,len_data,List.length_nil] at this;omega
 have hsp:=numR_spec _ hall hne;obtain⟨n0,n1,n2⟩:=numR_facts ((s.data.toList.drop k).take n);rw[←ext_data] at hsp
 have KP:Hid (∀ w,Given w→Calls Tryz.prog 96 #[.string (s.extract k (k+n))] w fun e w'=>e= .returned (.tuple #[.int .i64 (numR (s.extract k (k+n)).data.toList).1,.int .i64 (numR (s.extract k (k+n)).data.toList).2])∧Below w.heap.size w w'):=
  Lib.hid fun w hg=>parse_anyN _ hx _ _ hsp w hg
 rw[ext_data] at KP;generalize numR ((s.data.toList.drop k).take n)=R at KP n0 n1 n2 ⊢;obtain⟨v,x⟩:=R;dsimp only at KP n0 n1 n2 ⊢;have HG:=Lib.hid hG;obtain⟨q,hq⟩:∃ q,q=k+n:=⟨_,rfl⟩;have HQ:=Lib.hid hq;rw[←hq] at KR KP;have q1:k≤q:=by omega
 have q2:q≤s.size:=by omega
 clear hsp hne hx hall hd hG hq hrun h0;by_cases hx0:x=0
 ·subst hx0
  rw[if_pos rfl];go_enter Tryz.func49,Tryz.ntmps49;go_wp2_with (first | (go_at_call 45;((with_reducible refine(KR.out _).mono ?_));rintro e w' ⟨rfl,rfl⟩) | (go_at_call 96;((with_reducible refine(KP.out _ (HG.out.below ((Below.refl _ _).alloc (Nat.le_refl _) _))).mono ?_));rintro e w' ⟨rfl,hb⟩;obtain⟨hc,hfz⟩:=bcell hb;have hz:=size_le hb;have HB:=Lib.hid hb;clear hb));refine bodyPost_ret (v:= .tuple #[tokV ⟨2,[],v,[],0⟩ (.slice none 0 0),.int .i64 q,.int .i64 0]) (by simp[results,Tryz.results49,go_sem,hc,tokV]) rfl ⟨_,_,?_,World.ownsRow_nil _ _ _ _,box5_below HB.out _ _ _ _ _,fun t' q h=>by injection h with h _;exact h.symm⟩;rw[HQ.out];rfl
 ·rw[if_neg hx0]
  have hb0:(x != 0)=true:=by simpa using hx0
  clear hx0;go_enter Tryz.func49,Tryz.ntmps49;go_wp2_with (first | (go_at_call 45;((with_reducible refine(KR.out _).mono ?_));rintro e w' ⟨rfl,rfl⟩) | (go_at_call 96;((with_reducible refine(KP.out _ (HG.out.below ((Below.refl _ _).alloc (Nat.le_refl _) _))).mono ?_));rintro e w' ⟨rfl,hb⟩;obtain⟨hc,hfz⟩:=bcell hb;have hz:=size_le hb;have HB:=Lib.hid hb;clear hb));exact bodyPost_ret (v:= .tuple #[tokV ⟨0,[],0,[],0⟩ (.slice none 0 0),.int .i64 k,.int .i64 x]) (by simp[results,Tryz.results49,go_sem,hc,tokV]) rfl ⟨_,_,rfl,World.ownsRow_nil _ _ _ _,box5_below HB.out _ _ _ _ _,fun t' q h=>by cases h⟩
theorem textR_cases (l:Bs):textR l=match parse l with | (none,q)=> .bad q 1 | (some ps,q)=> .ok ⟨3,[],0,ps,0⟩ q:=rfl
theorem ext_tail (s:ByteArray) (k:Nat):(s.extract k s.size).data.toList=s.data.toList.drop k:=by
 by_cases h:k≤s.size
 ·have:=ext_data s k (s.size - k)
  rw[show k+(s.size - k)=s.size by omega] at this;rw[this,List.take_of_length_le (by rw[List.length_drop,len_data];omega)]
 ·rw[drop_end s k (by omega)]
  apply List.eq_nil_of_length_eq_zero;rw[len_data,ByteArray.size_extract];omega
def textA (R:Option (List Pt) × Nat):TR:=match R with | (none,q)=> .bad q 1 | (some ps,q)=> .ok ⟨3,[],0,ps,0⟩ q
theorem readtext_any (s:ByteArray) (k:Nat) (hk:k<s.size) (hs:s.size≤4000) (w:World):
  Calls Tryz.prog 47 #[.string s,.int .i64 k] w (PostR w k (textR (s.data.toList.drop k))):=by
 have KP:=Lib.hid fun w=>parse_any (s.extract k s.size) (by rw[ByteArray.size_extract];omega) w
 rw[ext_tail] at KP;show Calls Tryz.prog 47 #[.string s,.int .i64 k] w (PostR w k (textA (parse (s.data.toList.drop k))));have hbd:=(parse_bd (s.data.toList.drop k)).1;rw[List.length_drop,len_data] at hbd;generalize parse (s.data.toList.drop k)=R at KP hbd ⊢;obtain⟨o,q⟩:=R;dsimp only at hbd
 have KP:Hid (∀ w,Calls Tryz.prog 95 #[.string (s.extract k s.size)] w fun e w'=>∃ A c,e= .returned (.tuple #[.slice A (outOf o).length c,.int .i64 q,.int .i64 (errOf o)])∧OwnP w.heap.size w' (.slice A (outOf o).length c) (outOf o)∧Below w.heap.size w w'):=Lib.hid fun w=>(KP.out w).mono fun e w' ⟨v,he,ho,hb⟩=>by
  obtain⟨A,c,rfl,_⟩:=rd_of_own (ps:=outOf o) ho;exact⟨A,c,he,ho,hb⟩
 go_enter Tryz.func47,Tryz.ntmps47;go_wp2_with (go_at_call 95;((with_reducible refine(KP.out _).mono ?_));rintro e w' ⟨A,c,rfl,ho,hb⟩;obtain⟨hc,hfz⟩:=bcell hb;have hz:=size_le hb;have HB:=Lib.hid hb;have HO:=Lib.hid ho;clear hb ho);refine bodyPost_ret (v:= .tuple #[tokV ⟨3,[],0,outOf o,0⟩ (.slice A (outOf o).length c),.int .i64 ((k:Int)+q),.int .i64 (errOf o)]) (by simp[results,Tryz.results47,go_sem,hc,tokV]) rfl ⟨⟨3,[],0,outOf o,0⟩,.slice A (outOf o).length c,?_,box5_own HO.out _ _ _ _ _,box5_below HB.out _ _ _ _ _,?_⟩
 ·cases o <;> rfl
 ·intro t' q' h
  cases o with
  | none=>cases h
  | some ps=>injection h with h _;exact h.symm
theorem PostR.form {w w':World} {k:Nat} {R:TR} {e:Ending} (h:PostR w k R e w'):∃ (t:Tok) (A:Option Addr) (c:Nat),e= .returned (.tuple #[.agg #[.int .i64 t.kind,.string ⟨t.word.toArray⟩,.int .i64 t.n,.slice A t.parts.length c,.int .i64 t.pl],.int .i64 (posR k R),.int .i64 (errR R)])∧
  Hid (OwnP w.heap.size w' (.slice A t.parts.length c) t.parts∧∀ t' q,R= .ok t' q→t'=t)∧Below w.heap.size w w':=by
 obtain⟨t,v,rfl,ho,hb,ht⟩:=h;obtain⟨A,c,rfl,_⟩:=rd_of_own (ps:=t.parts) ho;exact⟨t,A,c,rfl,Lib.hid ⟨ho,ht⟩,hb⟩
theorem box5_post {w w1:World} {o:Obj} {k:Nat} {R:TR} {t:Tok} {A:Option Addr} {c:Nat} {z:Int} (hz:z=posR k R) (h:Hid (OwnP (w.alloc o).heap.size w1 (.slice A t.parts.length c) t.parts∧∀ t' q,R= .ok t' q→t'=t))
  (hb:Below (w.alloc o).heap.size (w.alloc o) w1) (u0 u1 u2 u3 u4:Value):
  PostR w k R (.returned (.tuple #[.agg #[.int .i64 t.kind,.string ⟨t.word.toArray⟩,.int .i64 t.n,.slice A t.parts.length c,.int .i64 t.pl],.int .i64 z,.int .i64 (errR R)])) (put5 w1 w.heap.size u0 u1 u2 u3 u4):=
 ⟨t,.slice A t.parts.length c,by rw[hz];rfl,box5_own h.out.1 _ _ _ _ _,box5_below hb _ _ _ _ _,h.out.2⟩
theorem readword_post (s:ByteArray) (k f n q:Nat) (kd:Int) (R:TR) (hR:R=wordR kd ((s.data.toList.drop f).take n) q) (i j:Int) (hi:i=f) (hj:j=((f+n:Nat):Int)) (hf:f+n≤s.size) (hq:f+n=k+q) (hs:s.size≤1000000) (w:World):
  Calls Tryz.prog 51 #[.string s,.int .i64 k,.int .i64 kd,.int .i64 i,.int .i64 j] w (PostR w k R):=by
 subst hi hj hR;exact(readword_any s k f n kd hf hs w).mono fun e w' ⟨he,hb⟩=>by rw[he];exact resW_post hb hq
theorem head_low (c:UInt8) (h:isLow c=true):c≠34∧isDig c=false∧c≠36∧c≠45:=by
 have hx:∀ c:UInt8,isLow c=true→c≠34∧isDig c=false∧c≠36∧c≠45:=all256 _ (by decide+kernel);exact hx c h
theorem readtoken_text (s:ByteArray) (k:Nat) (hk:k<s.size) (hs:s.size≤4000) (h34:s[k]=34) (w:World):
  Calls Tryz.prog 30 #[.string s,.int .i64 k] w (PostR w k (tokR (s.data.toList.drop k))):=by
 have hR:tokR (s.data.toList.drop k)=textR (s.data.toList.drop k):=by
  rw[drop_at s k hk];unfold tokR;dsimp only;rw[if_pos h34]
 rw[hR];have K:=Lib.hid fun w=>readtext_any s k hk hs w
 generalize textR (s.data.toList.drop k)=R at K ⊢;have b34:((s[k].toNat:Int)==34)=true:=byte_eq (n:=34) h34 (by omega);clear hR h34;go_enter Tryz.func30,Tryz.ntmps30;go_wp2_with (go_at_call 47;((with_reducible refine(K.out _).mono ?_));rintro e w' hp;obtain⟨t,A,c,rfl,HO,hb⟩:=hp.form;obtain⟨hc,hfz⟩:=bcell hb;have hz:=size_le hb;have HB:=Lib.hid hb;clear hb hp);refine bodyPost_ret (v:= .tuple #[.agg #[.int .i64 t.kind,.string ⟨t.word.toArray⟩,.int .i64 t.n,.slice A t.parts.length c,.int .i64 t.pl],.int .i64 (posR k R),.int .i64 (errR R)]) (by simp[results,Tryz.results30,go_sem,hc]) rfl (box5_post rfl HO HB.out _ _ _ _ _)
theorem readtoken_num (s:ByteArray) (k:Nat) (hk:k<s.size) (hs:s.size≤4000) (hd:isDig s[k]=true) (h34:s[k]≠34) (w:World) (hG:Given w):
  Calls Tryz.prog 30 #[.string s,.int .i64 k] w (PostR w k (tokR (s.data.toList.drop k))):=by
 have hR:tokR (s.data.toList.drop k)=numT (s.data.toList.drop k):=by
  rw[drop_at s k hk];unfold tokR;dsimp only;rw[if_neg h34,if_pos hd]
 rw[hR];have K:=Lib.hid fun w hg=>readnumber_any s k hk hd hs w hg
 generalize numT (s.data.toList.drop k)=R at K ⊢;have b34:((s[k].toNat:Int)==34)=false:=byte_ne (n:=34) h34 (by omega);have KD:=Lib.hid fun w=>tdig_any s[k] w
 rw[hd] at KD;have HG:=Lib.hid hG;clear hR h34 hd hG;go_enter Tryz.func30,Tryz.ntmps30;go_wp2_with (first | (go_at_call 48;((with_reducible refine(KD.out _).mono ?_));rintro e w' ⟨rfl,rfl⟩) | (go_at_call 49;((with_reducible refine(K.out _ (HG.out.below ((Below.refl _ _).alloc (Nat.le_refl _) _))).mono ?_));rintro e w' hp;obtain⟨t,A,c,rfl,HO,hb⟩:=hp.form;obtain⟨hc,hfz⟩:=bcell hb;have hz:=size_le hb;have HB:=Lib.hid hb;clear hb hp));refine bodyPost_ret (v:= .tuple #[.agg #[.int .i64 t.kind,.string ⟨t.word.toArray⟩,.int .i64 t.n,.slice A t.parts.length c,.int .i64 t.pl],.int .i64 (posR k R),.int .i64 (errR R)]) (by simp[results,Tryz.results30,go_sem,hc]) rfl (box5_post rfl HO HB.out _ _ _ _ _)
theorem readtoken_word (s:ByteArray) (k:Nat) (hk:k<s.size) (hs:s.size≤4000) (hl:isLow s[k]=true) (w:World):
  Calls Tryz.prog 30 #[.string s,.int .i64 k] w (PostR w k (tokR (s.data.toList.drop k))):=by
 obtain⟨h34,hd,h36,h45⟩:=head_low _ hl;obtain⟨R,hR⟩:∃ R,R=tokR (s.data.toList.drop k):=⟨_,rfl⟩;rw[←hR]
 replace hR:R=wordR 1 ((s.data.toList.drop k).take (runL isIn (s.data.toList.drop k))) (runL isIn (s.data.toList.drop k)):=by
  rw[hR]
  conv=>lhs;rw[drop_at s k hk]
  unfold tokR;dsimp only;rw[if_neg h34,if_neg (by rw[hd];decide),if_pos hl,←drop_at s k hk]
 have KR:=Lib.hid fun w=>runend_in s k (by omega) (by omega) w
 have hrun:=runL_le isIn (s.data.toList.drop k);rw[List.length_drop,len_data] at hrun;generalize runL isIn (s.data.toList.drop k)=n at KR hrun hR;have K:=Lib.hid fun w=>readword_post s k k n n 1 R hR k ((k+n:Nat):Int) rfl rfl (by omega) rfl (by omega) w
 have b34:((s[k].toNat:Int)==34)=false:=byte_ne (n:=34) h34 (by omega);have KD:=Lib.hid fun w=>tdig_any s[k] w
 rw[hd] at KD;have KL:=Lib.hid fun w=>tlow_any s[k] w
 rw[hl] at KL;obtain⟨q,hq⟩:∃ q,q=k+n:=⟨_,rfl⟩;rw[←hq] at KR K;clear hR h34 hd hl h36 h45 hrun hq;go_enter Tryz.func30,Tryz.ntmps30;go_wp2_with (first | (go_at_call 48;((with_reducible refine(KD.out _).mono ?_));rintro e w' ⟨rfl,rfl⟩) | (go_at_call 50;((with_reducible refine(KL.out _).mono ?_));rintro e w' ⟨rfl,rfl⟩) | (go_at_call 45;((with_reducible refine(KR.out _).mono ?_));rintro e w' ⟨rfl,rfl⟩) | (go_at_call 51;((with_reducible refine(K.out _).mono ?_));rintro e w' hp;obtain⟨t,A,c,rfl,HO,hb⟩:=hp.form;obtain⟨hc,hfz⟩:=bcell hb;have hz:=size_le hb;have HB:=Lib.hid hb;clear hb hp));refine bodyPost_ret (v:= .tuple #[.agg #[.int .i64 t.kind,.string ⟨t.word.toArray⟩,.int .i64 t.n,.slice A t.parts.length c,.int .i64 t.pl],.int .i64 (posR k R),.int .i64 (errR R)]) (by simp[results,Tryz.results30,go_sem,hc]) rfl (box5_post rfl HO HB.out _ _ _ _ _)
theorem readtoken_var (s:ByteArray) (k:Nat) (hk:k<s.size) (hs:s.size≤4000) (h36:s[k]=36) (w:World):
  Calls Tryz.prog 30 #[.string s,.int .i64 k] w (PostR w k (tokR (s.data.toList.drop k))):=by
 have hd:isDig s[k]=false:=by rw[h36];decide
 have hl:isLow s[k]=false:=by rw[h36];decide
 obtain⟨R,hR⟩:∃ R,R=tokR (s.data.toList.drop k):=⟨_,rfl⟩;rw[←hR]
 replace hR:R=wordR 6 ((s.data.toList.drop (k+1)).take (runL isIn (s.data.toList.drop (k+1)))) (runL isIn (s.data.toList.drop (k+1))+1):=by
  rw[hR]
  conv=>lhs;rw[drop_at s k hk]
  unfold tokR;dsimp only;rw[if_neg (by rw[h36];decide),if_neg (by rw[hd];decide),if_neg (by rw[hl];decide),if_pos h36]
 have KR:=Lib.hid fun w=>runend_in s (k+1) (by omega) (by omega) w
 have hrun:=runL_le isIn (s.data.toList.drop (k+1));rw[List.length_drop,len_data] at hrun;generalize runL isIn (s.data.toList.drop (k+1))=n at KR hrun hR;have K:=Lib.hid fun w=>readword_post s k (k+1) n (n+1) 6 R hR ((k:Int)+1) ((k+1+n:Nat):Int) (by omega) rfl (by omega) (by omega) (by omega) w
 have KR:Hid (∀ w,Calls Tryz.prog 45 #[.string s,.int .i64 ((k:Int)+1),.func (.func 52) #[] #[]] w fun e w'=>e= .returned (.int .i64 ((k+1+n:Nat):Int))∧w=w'):=Lib.hid fun w=>KR.out w
 have b34:((s[k].toNat:Int)==34)=false:=byte_ne (n:=34) (by rw[h36];decide) (by omega);have b36:((s[k].toNat:Int)==36)=true:=byte_eq (n:=36) h36 (by omega);have KD:=Lib.hid fun w=>tdig_any s[k] w
 rw[hd] at KD;have KL:=Lib.hid fun w=>tlow_any s[k] w
 rw[hl] at KL;obtain⟨q,hq⟩:∃ q,q=k+1+n:=⟨_,rfl⟩;rw[←hq] at KR K;clear hR hd hl h36 hrun hq;go_enter Tryz.func30,Tryz.ntmps30;go_wp2_with (first | (go_at_call 48;((with_reducible refine(KD.out _).mono ?_));rintro e w' ⟨rfl,rfl⟩) | (go_at_call 50;((with_reducible refine(KL.out _).mono ?_));rintro e w' ⟨rfl,rfl⟩) | (go_at_call 45;((with_reducible refine(KR.out _).mono ?_));rintro e w' ⟨rfl,rfl⟩) | (go_at_call 51;((with_reducible refine(K.out _).mono ?_));rintro e w' hp;obtain⟨t,A,c,rfl,HO,hb⟩:=hp.form;obtain⟨hc,hfz⟩:=bcell hb;have hz:=size_le hb;have HB:=Lib.hid hb;clear hb hp));refine bodyPost_ret (v:= .tuple #[.agg #[.int .i64 t.kind,.string ⟨t.word.toArray⟩,.int .i64 t.n,.slice A t.parts.length c,.int .i64 t.pl],.int .i64 (posR k R),.int .i64 (errR R)]) (by simp[results,Tryz.results30,go_sem,hc]) rfl (box5_post rfl HO HB.out _ _ _ _ _)
theorem readtoken_flag (s:ByteArray) (k:Nat) (hk:k+1<s.size) (hs:s.size≤4000) (h45:s[k]=45) (hl1:isLow s[k+1]=true) (w:World):
  Calls Tryz.prog 30 #[.string s,.int .i64 k] w (PostR w k (tokR (s.data.toList.drop k))):=by
 have hd:isDig s[k]=false:=by rw[h45];decide
 have hl:isLow s[k]=false:=by rw[h45];decide
 have hlow:lowHead (s.data.toList.drop (k+1))=true:=by rw[drop_at s (k+1) hk];exact hl1
 obtain⟨R,hR⟩:∃ R,R=tokR (s.data.toList.drop k):=⟨_,rfl⟩;rw[←hR]
 replace hR:R=wordR 5 ((s.data.toList.drop (k+1)).take (runL isLow (s.data.toList.drop (k+1)))) (runL isLow (s.data.toList.drop (k+1))+1):=by
  rw[hR]
  conv=>lhs;rw[drop_at s k (by omega)]
  unfold tokR;dsimp only;rw[if_neg (by rw[h45];decide),if_neg (by rw[hd];decide),if_neg (by rw[hl];decide),if_neg (by rw[h45];decide),if_pos ⟨h45,hlow⟩]
 have KR:=Lib.hid fun w=>runend_low s (k+1) (by omega) (by omega) w
 have hrun:=runL_le isLow (s.data.toList.drop (k+1));rw[List.length_drop,len_data] at hrun;generalize runL isLow (s.data.toList.drop (k+1))=n at KR hrun hR;have K:=Lib.hid fun w=>readword_post s k (k+1) n (n+1) 5 R hR ((k:Int)+1) ((k+1+n:Nat):Int) (by omega) rfl (by omega) (by omega) (by omega) w
 have KR:Hid (∀ w,Calls Tryz.prog 45 #[.string s,.int .i64 ((k:Int)+1),.func (.func 50) #[] #[]] w fun e w'=>e= .returned (.int .i64 ((k+1+n:Nat):Int))∧w=w'):=Lib.hid fun w=>KR.out w
 have b34:((s[k].toNat:Int)==34)=false:=byte_ne (n:=34) (by rw[h45];decide) (by omega);have b36:((s[k].toNat:Int)==36)=false:=byte_ne (n:=36) (by rw[h45];decide) (by omega);have b45:((s[k].toNat:Int)==45)=true:=byte_eq (n:=45) h45 (by omega);have KD:=Lib.hid fun w=>tdig_any s[k] w
 rw[hd] at KD;have KL:=Lib.hid fun w=>tlow_any s[k] w
 rw[hl] at KL;have KM:=Lib.hid fun w=>tlow_any s[k+1] w
 rw[hl1] at KM;obtain⟨q,hq⟩:∃ q,q=k+1+n:=⟨_,rfl⟩;rw[←hq] at KR K;clear hR hd hl h45 hrun hq hl1 hlow;go_enter Tryz.func30,Tryz.ntmps30;go_wp2_with (first | (go_at_call 48;((with_reducible refine(KD.out _).mono ?_));rintro e w' ⟨rfl,rfl⟩) | (go_at_call 50;((with_reducible refine(KL.out _).mono ?_));rintro e w' ⟨rfl,rfl⟩) | (go_at_call 50;((with_reducible refine(KM.out _).mono ?_));rintro e w' ⟨rfl,rfl⟩) | (go_at_call 45;((with_reducible refine(KR.out _).mono ?_));rintro e w' ⟨rfl,rfl⟩) | (go_at_call 51;((with_reducible refine(K.out _).mono ?_));rintro e w' hp;obtain⟨t,A,c,rfl,HO,hb⟩:=hp.form;obtain⟨hc,hfz⟩:=bcell hb;have hz:=size_le hb;have HB:=Lib.hid hb;clear hb hp));refine bodyPost_ret (v:= .tuple #[.agg #[.int .i64 t.kind,.string ⟨t.word.toArray⟩,.int .i64 t.n,.slice A t.parts.length c,.int .i64 t.pl],.int .i64 (posR k R),.int .i64 (errR R)]) (by simp[results,Tryz.results30,go_sem,hc]) rfl (box5_post rfl HO HB.out _ _ _ _ _)
theorem readtoken_sign (s:ByteArray) (k:Nat) (hk:k<s.size) (hs:s.size≤4000) (h34:s[k]≠34) (hd:isDig s[k]=false) (hl:isLow s[k]=false) (h36:s[k]≠36) (h45:s[k]≠45) (w:World):
  Calls Tryz.prog 30 #[.string s,.int .i64 k] w (PostR w k (tokR (s.data.toList.drop k))):=by
 have hno:¬ (s[k]=45∧lowHead (s.data.toList.drop (k+1))=true):=fun h=>h45 h.1
 obtain⟨R,hR⟩:∃ R,R=tokR (s.data.toList.drop k):=⟨_,rfl⟩;rw[←hR]
 replace hR:R=wordR 4 ((s.data.toList.drop k).take (signL (s.data.toList.drop k))) (signL (s.data.toList.drop k)):=by
  rw[hR]
  conv=>lhs;rw[drop_at s k hk]
  unfold tokR;dsimp only;rw[if_neg h34,if_neg (by rw[hd];decide),if_neg (by rw[hl];decide),if_neg h36,if_neg hno,←drop_at s k hk]
 have KR:=Lib.hid fun w=>signend_any s k hk (by omega) w
 have hrun:=signL_le (s.data.toList.drop k);rw[List.length_drop,len_data] at hrun;generalize signL (s.data.toList.drop k)=n at KR hrun hR;have K:=Lib.hid fun w=>readword_post s k k n n 4 R hR k ((k+n:Nat):Int) rfl rfl (by omega) rfl (by omega) w
 have b34:((s[k].toNat:Int)==34)=false:=byte_ne (n:=34) h34 (by omega);have b36:((s[k].toNat:Int)==36)=false:=byte_ne (n:=36) h36 (by omega);have KD:=Lib.hid fun w=>tdig_any s[k] w
 rw[hd] at KD;have KL:=Lib.hid fun w=>tlow_any s[k] w
 rw[hl] at KL;obtain⟨q,hq⟩:∃ q,q=k+n:=⟨_,rfl⟩;rw[←hq] at KR K;have b45:((s[k].toNat:Int)==45)=false:=byte_ne (n:=45) h45 (by omega);clear hR hd hl h34 h36 h45 hrun hq hno;go_enter Tryz.func30,Tryz.ntmps30;go_wp2_with (first | (go_at_call 48;((with_reducible refine(KD.out _).mono ?_));rintro e w' ⟨rfl,rfl⟩) | (go_at_call 50;((with_reducible refine(KL.out _).mono ?_));rintro e w' ⟨rfl,rfl⟩) | (go_at_call 53;((with_reducible refine(KR.out _).mono ?_));rintro e w' ⟨rfl,rfl⟩) | (go_at_call 51;((with_reducible refine(K.out _).mono ?_));rintro e w' hp;obtain⟨t,A,c,rfl,HO,hb⟩:=hp.form;obtain⟨hc,hfz⟩:=bcell hb;have hz:=size_le hb;have HB:=Lib.hid hb;clear hb hp));refine bodyPost_ret (v:= .tuple #[.agg #[.int .i64 t.kind,.string ⟨t.word.toArray⟩,.int .i64 t.n,.slice A t.parts.length c,.int .i64 t.pl],.int .i64 (posR k R),.int .i64 (errR R)]) (by simp[results,Tryz.results30,go_sem,hc]) rfl (box5_post rfl HO HB.out _ _ _ _ _)
theorem readtoken_dash (s:ByteArray) (k:Nat) (hk:k<s.size) (hs:s.size≤4000) (h45:s[k]=45) (hx:∀ h:k+1<s.size,isLow s[k+1]=false) (w:World):
  Calls Tryz.prog 30 #[.string s,.int .i64 k] w (PostR w k (tokR (s.data.toList.drop k))):=by
 have h34:s[k]≠34:=by rw[h45];decide
 have h36:s[k]≠36:=by rw[h45];decide
 have hd:isDig s[k]=false:=by rw[h45];decide
 have hl:isLow s[k]=false:=by rw[h45];decide
 have hno:¬ (s[k]=45∧lowHead (s.data.toList.drop (k+1))=true):=by
  rintro⟨_,h⟩;by_cases a:k+1<s.size
  ·rw[drop_at s (k+1) a] at h
   have:=hx a;rw[show lowHead (s[k+1]::s.data.toList.drop (k+1+1))=isLow s[k+1] from rfl,this] at h
   cases h
  ·rw[drop_end s (k+1) a] at h;cases h
 obtain⟨R,hR⟩:∃ R,R=tokR (s.data.toList.drop k):=⟨_,rfl⟩;rw[←hR]
 replace hR:R=wordR 4 ((s.data.toList.drop k).take (signL (s.data.toList.drop k))) (signL (s.data.toList.drop k)):=by
  rw[hR]
  conv=>lhs;rw[drop_at s k hk]
  unfold tokR;dsimp only;rw[if_neg h34,if_neg (by rw[hd];decide),if_neg (by rw[hl];decide),if_neg h36,if_neg hno,←drop_at s k hk]
 have KR:=Lib.hid fun w=>signend_any s k hk (by omega) w
 have hrun:=signL_le (s.data.toList.drop k);rw[List.length_drop,len_data] at hrun;generalize signL (s.data.toList.drop k)=n at KR hrun hR;have K:=Lib.hid fun w=>readword_post s k k n n 4 R hR k ((k+n:Nat):Int) rfl rfl (by omega) rfl (by omega) w
 have b34:((s[k].toNat:Int)==34)=false:=byte_ne (n:=34) h34 (by omega);have b36:((s[k].toNat:Int)==36)=false:=byte_ne (n:=36) h36 (by omega);have KD:=Lib.hid fun w=>tdig_any s[k] w
 rw[hd] at KD;have KL:=Lib.hid fun w=>tlow_any s[k] w
 rw[hl] at KL;obtain⟨q,hq⟩:∃ q,q=k+n:=⟨_,rfl⟩;rw[←hq] at KR K;have b45:((s[k].toNat:Int)==45)=true:=byte_eq (n:=45) h45 (by omega);by_cases a:k+1<s.size
 ·have KM:=Lib.hid fun w=>tlow_any s[k+1] w
  rw[hx a] at KM;clear hR hd hl h34 h36 h45 hrun hq hno hx;go_enter Tryz.func30,Tryz.ntmps30;go_wp2_with (first | (go_at_call 48;((with_reducible refine(KD.out _).mono ?_));rintro e w' ⟨rfl,rfl⟩) | (go_at_call 50;((with_reducible refine(KL.out _).mono ?_));rintro e w' ⟨rfl,rfl⟩) | (go_at_call 50;((with_reducible refine(KM.out _).mono ?_));rintro e w' ⟨rfl,rfl⟩) | (go_at_call 53;((with_reducible refine(KR.out _).mono ?_));rintro e w' ⟨rfl,rfl⟩) | (go_at_call 51;((with_reducible refine(K.out _).mono ?_));rintro e w' hp;obtain⟨t,A,c,rfl,HO,hb⟩:=hp.form;obtain⟨hc,hfz⟩:=bcell hb;have hz:=size_le hb;have HB:=Lib.hid hb;clear hb hp));refine bodyPost_ret (v:= .tuple #[.agg #[.int .i64 t.kind,.string ⟨t.word.toArray⟩,.int .i64 t.n,.slice A t.parts.length c,.int .i64 t.pl],.int .i64 (posR k R),.int .i64 (errR R)]) (by simp[results,Tryz.results30,go_sem,hc]) rfl (box5_post rfl HO HB.out _ _ _ _ _)
 ·clear hR hd hl h34 h36 h45 hrun hq hno hx
  go_enter Tryz.func30,Tryz.ntmps30;go_wp2_with (first | (go_at_call 48;((with_reducible refine(KD.out _).mono ?_));rintro e w' ⟨rfl,rfl⟩) | (go_at_call 50;((with_reducible refine(KL.out _).mono ?_));rintro e w' ⟨rfl,rfl⟩) | (go_at_call 53;((with_reducible refine(KR.out _).mono ?_));rintro e w' ⟨rfl,rfl⟩) | (go_at_call 51;((with_reducible refine(K.out _).mono ?_));rintro e w' hp;obtain⟨t,A,c,rfl,HO,hb⟩:=hp.form;obtain⟨hc,hfz⟩:=bcell hb;have hz:=size_le hb;have HB:=Lib.hid hb;clear hb hp));refine bodyPost_ret (v:= .tuple #[.agg #[.int .i64 t.kind,.string ⟨t.word.toArray⟩,.int .i64 t.n,.slice A t.parts.length c,.int .i64 t.pl],.int .i64 (posR k R),.int .i64 (errR R)]) (by simp[results,Tryz.results30,go_sem,hc]) rfl (box5_post rfl HO HB.out _ _ _ _ _)
theorem readtoken_any (s:ByteArray) (k:Nat) (hk:k<s.size) (hs:s.size≤4000) (w:World) (hG:Given w):
  Calls Tryz.prog 30 #[.string s,.int .i64 k] w (PostR w k (tokR (s.data.toList.drop k))):=by
 by_cases h34:s[k]=34
 ·exact readtoken_text s k hk hs h34 w
 ·by_cases hd:isDig s[k]=true
  ·exact readtoken_num s k hk hs hd h34 w hG
  ·by_cases hl:isLow s[k]=true
   ·exact readtoken_word s k hk hs hl w
   ·by_cases h36:s[k]=36
    ·exact readtoken_var s k hk hs h36 w
    ·by_cases h45:s[k]=45
     ·by_cases hx:∃ h:k+1<s.size,isLow s[k+1]=true
      ·obtain⟨a,b⟩:=hx
       exact readtoken_flag s k a hs h45 b w
      ·exact readtoken_dash s k hk hs h45 (fun a=>Bool.eq_false_iff.2 fun b=>hx ⟨a,b⟩) w
     ·exact readtoken_sign s k hk hs h34 (Bool.eq_false_iff.2 hd) (Bool.eq_false_iff.2 hl) h36 h45 w
abbrev Tv:=Tok × Value
def cellsT (l:List Tv):List Value:=l.flatMap fun x=>[.int .i64 x.1.kind,.string ⟨x.1.word.toArray⟩,.int .i64 x.1.n,x.2,.int .i64 x.1.pl]
theorem cellsT_append (a b:List Tv):cellsT (a++b)=cellsT a++cellsT b:=by simp[cellsT]
theorem cellsT_cons (p:Tv) (r:List Tv):cellsT (p::r)= .int .i64 p.1.kind:: .string ⟨p.1.word.toArray⟩:: .int .i64 p.1.n::p.2:: .int .i64 p.1.pl::cellsT r:=rfl
theorem infoT:(Tryz.prog.info? 53).map (fun i=>(i.zero,i.size,i.bytes))=some (some (.agg #[.int .i64 0,.string ⟨#[]⟩,.int .i64 0,.slice none 0 0,.int .i64 0]),5,64):=by kernel_rfl
theorem new_cellsT (w:World) (o:Obj) (T:TypeId) (cs:Array Value) (j:Nat) (u:Value) (h:cs.toList[j]?=some u):((w.alloc o).alloc (.cells cs T)).cell? ((⟨w.heap.size+1,0,none⟩:Addr).add j)=some u:=by
 have e:(w.alloc o).heap.size=w.heap.size+1:=by simp
 rw[←e];exact new_cells (w.alloc o) T cs j u h
theorem five_one (a b c:Int) (W:ByteArray) (A:Option Addr) (n m:Nat):∀ u∈[Value.int .i64 a,.string W,.int .i64 b,.slice A n m,.int .i64 c],u.oneCell'=true:=by
 intro u hu;simp only[List.mem_cons,List.not_mem_nil,or_false] at hu
 rcases hu with rfl | rfl | rfl | rfl | rfl <;> rfl
structure Tks (B:Nat) (w0 w:World) (v:Value) (q:List Tv):Prop where
 row:w.ownsRow B 53 5 v q.length (cellsT q)
 parts:∀ x∈q,OwnP B w x.2 x.1.parts
 below:Below B w0 w
 size:B≤w.heap.size
theorem Tks.nil (w:World):Tks w.heap.size w w (.slice none 0 0) []:=⟨World.ownsRow_nil _ _ _ _,by simp,Below.refl _ _,Nat.le_refl _⟩
theorem Tks.none_ {B:Nat} {w0 w:World} {v:Value} {q:List Tv} (h:Tks B w0 w v q):Tks B w0 w (.slice none 0 0) []:=⟨World.ownsRow_nil _ _ _ _,by simp,h.below,h.size⟩
theorem Tks.alloc {B:Nat} {w0 w:World} {v:Value} {q:List Tv} (h:Tks B w0 w v q) (o:Obj):Tks B w0 (w.alloc o) v q:=
 ⟨h.row.alloc o,fun x hx=>(h.parts x hx).alloc o,h.below.alloc h.size o,by simp;have:=h.size;omega⟩
theorem Tks.beyond {B:Nat} {w0 w w':World} {v:Value} {q:List Tv} (h:Tks B w0 w v q) (hb:Below w.heap.size w w'):Tks B w0 w' v q:=
 ⟨below_kept h.row hb,fun x hx=>below_kept (h.parts x hx) hb,h.below.trans (hb.mono h.size),Nat.le_trans h.size hb.size⟩
theorem Tks.token {B:Nat} {w0 w w':World} {v v' u:Value} {q:List Tv} {g:Tok} (h:Tks B w0 w v q) (hu:OwnP B w u g.parts)
  (ho:w'.ownsRow B 53 5 v' (q.length+1) (cellsT q++[.int .i64 g.kind,.string ⟨g.word.toArray⟩,.int .i64 g.n,u,.int .i64 g.pl])) (hg:w.grownBy w' v.ownBlock):Tks B w0 w' v' (q++[(g,u)]):=by
 refine⟨by rw[cellsT_append,List.length_append];exact ho,fun x hx=>?_,h.below.grown hg h.size (fun k hk=>(h.row.lt k hk).1),Nat.le_trans h.size hg.size⟩
 rcases List.mem_append.1 hx with hx | hx
 ·exact(h.parts x hx).kept hg (own_ne (h.parts x hx) h.row (by decide))
 ·rw[List.mem_singleton] at hx
  subst hx;exact hu.kept hg (own_ne hu h.row (by decide))
def PostT (w0:World) (R:Option (List Tok) × Nat × Int) (e:Ending) (w':World):Prop:=
 ∃ (v:Value) (l:List Tv),e= .returned (.tuple #[v,.int .i64 R.2.1,.int .i64 R.2.2])∧Tks w0.heap.size w0 w' v l∧l.map (·.1)=R.1.getD []
def LoopT (s:ByteArray) (w0:World) (R:Option (List Tok) × Nat × Int) (v a:Value) (w:World):Prop:=
 ∃ (k:Nat) (l:List Tv),k≤s.size∧a= .int .i64 k∧goT s.data.toList k (l.map (·.1))=R∧Tks w0.heap.size w0 w v l∧l.length≤k
def TBad (w0:World) (p:Nat) (x:Int) (e:Ending) (w':World):Prop:=
 ∃ (t:Tok) (A:Option Addr) (c:Nat),e= .returned (.tuple #[.agg #[.int .i64 t.kind,.string ⟨t.word.toArray⟩,.int .i64 t.n,.slice A t.parts.length c,.int .i64 t.pl],.int .i64 p,.int .i64 x])∧Below w0.heap.size w0 w'
def TOk (w0:World) (p:Nat) (t:Tok) (e:Ending) (w':World):Prop:=
 ∃ (A:Option Addr) (c:Nat),e= .returned (.tuple #[.agg #[.int .i64 t.kind,.string ⟨t.word.toArray⟩,.int .i64 t.n,.slice A t.parts.length c,.int .i64 t.pl],.int .i64 p,.int .i64 0])∧OwnP w0.heap.size w' (.slice A t.parts.length c) t.parts∧Below w0.heap.size w0 w'
theorem token_b (s:ByteArray) (k q:Nat) (x:Int) (hk:k<s.size) (hs:s.size≤4000) (h:tokR (s.data.toList.drop k)= .bad q x) (w:World) (hG:Given w):Calls Tryz.prog 30 #[.string s,.int .i64 k] w (TBad w (k+q) x):=by
 have:=readtoken_any s k hk hs w hG;rw[h] at this
 exact this.mono fun e w' hp=>by
  obtain⟨t,A,c,he,_,hb⟩:=hp.form;exact⟨t,A,c,he,hb⟩
theorem token_o (s:ByteArray) (k q:Nat) (t:Tok) (hk:k<s.size) (hs:s.size≤4000) (h:tokR (s.data.toList.drop k)= .ok t q) (w:World) (hG:Given w):Calls Tryz.prog 30 #[.string s,.int .i64 k] w (TOk w (k+q) t):=by
 have:=readtoken_any s k hk hs w hG;rw[h] at this
 exact this.mono fun e w' hp=>by
  obtain⟨t',A,c,he,HO,hb⟩:=hp.form;obtain rfl:=HO.out.2 t q rfl;exact⟨A,c,he,HO.out.1,hb⟩
theorem behind_at (s:ByteArray) (k:Nat) (i:Int) (N:Nat) (hi:i=k) (hN:N=behind s.data.toList k) (hk:k≤s.size) (hs:s.size≤1000000) (w:World):
  Calls Tryz.prog 29 #[.string s,.int .i64 i] w fun e w'=>e= .returned (.int .i64 N)∧w=w':=by
 subst hi hN;exact behind_any s k hk hs w
theorem scan_any (s:ByteArray) (hs:s.size≤4000) (w:World) (hG:Given w):Calls Tryz.prog 15 #[.string s] w (PostT w (scan s.data.toList)):=by
 by_cases h2000:2000<s.size
 ·have hR:scan s.data.toList=(none,2000,2):=by unfold scan;rw[if_pos (by rw[len_data];exact h2000)]
  rw[hR];clear hR;go_enter Tryz.func15,Tryz.ntmps15;go_wp2
  go_ret3
  exact⟨_,[],rfl,Tks.nil w,rfl⟩
 ·obtain⟨R,hR⟩:∃ R,R=goT s.data.toList (behind s.data.toList 0) []:=⟨_,rfl⟩
  have hsc:scan s.data.toList=R:=by unfold scan;rw[if_neg (by rw[len_data];exact h2000),hR]
  rw[hsc];have hb0:=behind_le s.data.toList 0 (Nat.zero_le _);rw[len_data] at hb0;have K0:Hid (∀ w,Calls Tryz.prog 29 #[.string s,.int .i64 0] w fun e w'=>e= .returned (.int .i64 (behind s.data.toList 0))∧w=w'):=Lib.hid fun w=>behind_at s 0 0 _ rfl rfl (by omega) (by omega) w
  generalize behind s.data.toList 0=B0 at K0 hR hb0;have HR:=Lib.hid hR.symm;obtain⟨i0,hi0,hz0,hz1,hz2⟩:=info_parts infoT;have HG:=Lib.hid hG;clear hR hsc hG;go_enter Tryz.func15,Tryz.ntmps15;go_wp2_with (go_at_call 29;((with_reducible refine(K0.out _).mono ?_));rintro e w' ⟨rfl,rfl⟩)
  go_loopw [5,6] (fun v a wr=>LoopT s w R v a wr) (fun _ a _=>s.size - (intOf a).toNat)
  case atStart=>exact⟨B0,[],hb0,rfl,HR.out,Tks.nil w,by simp⟩
  case round=>
   obtain⟨k,l,hk,rfl,hg,hT,hl⟩:=hrel;have HGk:=Lib.hid hg;have HT:=Lib.hid hT;have HGw:Hid (Given wr):=Lib.hid (HG.out.below hT.below);clear hg hT;by_cases a:k<s.size
   ·rcases hp:tokR (s.data.toList.drop k) with ⟨q,x⟩ | ⟨t,q⟩
    ·have HX:Hid (R=(none,k+q,x)):=Lib.hid (by rw[←HGk.out,goT_bad _ (by rw[len_data];exact a) hp])
     have K:=Lib.hid (token_b s k q x a hs hp wr HGw.out)
     have hx:(x != 0)=true:=by
      have:=(tokR_bad hp).2
      rcases this with h | h <;> (subst h;rfl)
     obtain⟨p,hpq⟩:∃ p,p=k+q:=⟨_,rfl⟩;rw[←hpq] at K HX;clear hp hpq;go_wp2_with (go_at_call 30;((with_reducible refine(K.out).mono ?_));rintro e w1 ⟨t,A,c,rfl,hb⟩;have HB:=Lib.hid hb;clear hb)
     go_ret3
     rw[HX.out];exact⟨_,[],rfl,((HT.out.beyond HB.out).alloc _).none_,rfl⟩
    ·obtain⟨q0,q1,_⟩:=tokR_ok hp
     rw[List.length_drop,len_data] at q1;have HX:Hid (goT s.data.toList (behind s.data.toList (k+q)) (l.map (·.1)++[withPl t k])=R):=Lib.hid (by rw[←HGk.out,goT_ok _ (by rw[len_data];exact a) hp]);have K:=Lib.hid (token_o s k q t a hs hp wr HGw.out);obtain⟨p,hpq⟩:∃ p,p=k+q:=⟨_,rfl⟩;have KB:=Lib.hid fun w=>behind_at s (k+q) p _ (by omega) rfl (by omega) (by omega) w
     have n1:=behind_ge s.data.toList (k+q);have n2:=behind_le s.data.toList (k+q) (by rw[len_data];omega);rw[len_data] at n2;generalize behind s.data.toList (k+q)=N at KB HX n1 n2;rw[←hpq] at K;have n3:k<N:=by omega
     clear hp hpq n1 q0 q1;go_wp2_with (first | (go_at_call 30;((with_reducible refine(K.out).mono ?_));rintro e w1 ⟨A,c,rfl,ho,hb⟩;have HB:=Lib.hid hb;have HO:=Lib.hid ho;clear hb ho) | (go_at_call 29;((with_reducible refine(KB.out _).mono ?_));rintro e w' ⟨rfl,rfl⟩) | (at_builtin;refine wpList_append_own _ rfl (.tmp 32) (.tmp 34) 45 rfl w.heap.size 53 i0 (.agg #[.int .i64 0,.string ⟨#[]⟩,.int .i64 0,.slice none 0 0,.int .i64 0]) 5 64 Tryz.underlying45 hi0 hz0 hz1 hz2 rfl (by decide) _ _ _ rfl (((HT.out.beyond HB.out).alloc _).alloc _).row ⟨w1.heap.size+1,0,none⟩ 1 1 [.int .i64 t.kind,.string ⟨t.word.toArray⟩,.int .i64 t.n,.slice A t.parts.length c,.int .i64 k] rfl rfl (fun j u hu=>new_cellsT w1 (.cells #[.int .i64 t.kind,.string ⟨t.word.toArray⟩,.int .i64 t.n,.slice A t.parts.length c,.int .i64 k] 53) 53 #[.int .i64 t.kind,.string ⟨t.word.toArray⟩,.int .i64 t.n,.slice A t.parts.length c,.int .i64 k] j u hu) (five_one _ _ _ _ _ _ _) (by unfold maxLen;omega) (by omega) (((HT.out.beyond HB.out).alloc _).alloc _).size ?_;intro v2 w3 hown' hgrow _))
     go_roundw
     case rel=>
      refine⟨N,l++[(withPl t k,.slice A t.parts.length c)],n2,rfl,by rw[List.map_append];exact HX.out,(((HT.out.beyond HB.out).alloc _).alloc _).token (g:=withPl t k) (u:= .slice A t.parts.length c) ?_ hown' hgrow,by rw[List.length_append];simp;omega⟩;exact(((HO.out.mono HT.out.size).alloc _).alloc _)
     case measure=>simp[intOf];omega
   ·have HX:Hid (R=(some (l.map (·.1)),0,0)):=Lib.hid (by rw[←HGk.out,goT_end _ (by rw[len_data];exact a)])
    go_wp2
    go_ret3
    rw[HX.out];exact⟨_,l,rfl,HT.out,rfl⟩
abbrev tokA (t:Tok) (A:Option Addr) (c:Nat):Value:= .agg #[.int .i64 t.kind,.string ⟨t.word.toArray⟩,.int .i64 t.n,.slice A t.parts.length c,.int .i64 t.pl]
structure FitT (t:Tok):Prop where
 word:t.word.length≤100000
 n: -9223372036854775808≤t.n∧t.n≤9223372036854775807
 parts:t.parts.length≤100000
 names:∀ p∈t.parts,p.1.length≤100000
 texts:∀ p∈t.parts,p.2.length≤100000
 print:(print t.parts).length≤100000
theorem nat_eq0 {m:Nat} (h:m=0):((m:Int)==0)=true∧(m==0)=true:=by subst h;exact⟨rfl,rfl⟩
theorem nat_ne0 {m:Nat} (h:¬ m=0):((m:Int)==0)=false∧(m==0)=false:=by
 constructor
 ·simp;omega
 ·simpa using h
theorem okT_2 {t:Tok} (h:t.kind=2):okT t=(t.word.isEmpty && decide (0≤t.n) && t.parts.isEmpty):=by unfold okT;rw[if_pos h]
theorem okT_3 {t:Tok} (h:t.kind=3):okT t=(t.word.isEmpty && decide (t.n=0) && may false t.parts):=by unfold okT;rw[if_neg (by omega),if_pos h]
theorem okT_x {t:Tok} (h:¬ t.kind=2) (h3:¬ t.kind=3):okT t=(mayW t.kind t.word && decide (t.n=0) && t.parts.isEmpty):=by unfold okT;rw[if_neg h,if_neg h3]
theorem empty_len (l:List Pt):l.isEmpty=decide (l.length=0):=by cases l <;> simp
theorem maybe_any (t:Tok) (A:Option Addr) (c:Nat) (w:World) (h:Rd w.heap.size w A t.parts.length t.parts) (hf:FitT t):
  Calls Tryz.prog 86 #[tokA t A c] w fun e w'=>e= .returned (.bool (okT t))∧Below w.heap.size w w':=by
 obtain⟨v,hv⟩:∃ v,v=okT t:=⟨_,rfl⟩;rw[←hv];unfold tokA;obtain⟨W,hW⟩:∃ W:ByteArray,W=⟨t.word.toArray⟩:=⟨_,rfl⟩;have hWs:W.size≤100000:=by rw[←len_data,hW];exact hf.word
 have KH:=Lib.hid fun w=>mayhave_any t.kind W (by omega) w
 have hWd:W.data.toList=t.word:=by rw[hW]
 rw[hWd] at KH;have KM:Hid (∀ w',Below w.heap.size w w'→Calls Tryz.prog 80 #[.slice A t.parts.length c] w' fun e w2=>e= .returned (.bool (may false t.parts))∧Below w'.heap.size w' w2):=Lib.hid fun w' hb=>may_any A _ c t.parts w' (h.onto hb) (by have:=hf.parts;omega) (fun p hp=>by have:=hf.names p hp;omega)
 rw[←hW];obtain⟨m,hm⟩:∃ m,m=t.parts.length:=⟨_,rfl⟩;have hpe:=empty_len t.parts;rw[←hm] at KM hpe ⊢;by_cases k2:t.kind=2
 ·rw[okT_2 k2,hpe] at hv
  rw[k2];by_cases e1:t.word=[]
  ·obtain⟨n1,n2⟩:=tx_nil hW e1
   by_cases e2:0≤t.n
   ·by_cases e3:m=0
    ·obtain⟨b1,b2⟩:=nat_eq0 e3
     have HV:Hid (v=true):=Lib.hid (by rw[hv];simp[e1,e2,e3]);clear hv hf h k2 hm hW hWd hWs hpe e1 e3;go_enter Tryz.func86,Tryz.ntmps86;go_wp2;go_ret;exact⟨ret_bool HV.out.symm,(Below.refl _ _).alloc (Nat.le_refl _) _⟩
    ·obtain⟨b1,b2⟩:=nat_ne0 e3
     have HV:Hid (v=false):=Lib.hid (by rw[hv];simp[e3]);clear hv hf h k2 hm hW hWd hWs hpe e1 e3;go_enter Tryz.func86,Tryz.ntmps86;go_wp2;go_ret;exact⟨ret_bool HV.out.symm,(Below.refl _ _).alloc (Nat.le_refl _) _⟩
   ·have HV:Hid (v=false):=Lib.hid (by rw[hv];simp[e2])
    clear hv hf h k2 hm hW hWd hWs hpe e1;go_enter Tryz.func86,Tryz.ntmps86;go_wp2;go_ret;exact⟨ret_bool HV.out.symm,(Below.refl _ _).alloc (Nat.le_refl _) _⟩
  ·obtain⟨n1,n2⟩:=tx_some hW e1
   have HV:Hid (v=false):=Lib.hid (by rw[hv];simp[e1]);clear hv hf h k2 hm hW hWd hWs hpe e1;go_enter Tryz.func86,Tryz.ntmps86;go_wp2;go_ret;exact⟨ret_bool HV.out.symm,(Below.refl _ _).alloc (Nat.le_refl _) _⟩
 ·have bk2:(t.kind==2)=false:=by simpa using k2
  by_cases k3:t.kind=3
  ·rw[okT_3 k3] at hv
   rw[k3];by_cases e1:t.word=[]
   ·obtain⟨n1,n2⟩:=tx_nil hW e1
    by_cases e2:t.n=0
    ·have bn:(t.n==0)=true:=by simpa using e2
     have HV:Hid (v=may false t.parts):=Lib.hid (by rw[hv];simp[e1,e2]);generalize may false t.parts=y at KM HV;clear hv hf h k2 k3 bk2 hm hW hWd hWs hpe e1;clear e2;go_enter Tryz.func86,Tryz.ntmps86;go_wp2_with (go_at_call 80;((with_reducible refine(KM.out _ ((Below.refl _ _).alloc (Nat.le_refl _) _)).mono ?_));rintro e w' ⟨rfl,hb⟩);go_ret;exact⟨ret_bool HV.out.symm,((Below.refl _ _).alloc (Nat.le_refl _) _).trans (hb.mono (by simp))⟩
    ·have bn:(t.n==0)=false:=by simpa using e2
     have HV:Hid (v=false):=Lib.hid (by rw[hv];simp[e2]);clear hv hf h k2 k3 bk2 hm hW hWd hWs hpe e1;clear e2;go_enter Tryz.func86,Tryz.ntmps86;go_wp2;go_ret;exact⟨ret_bool HV.out.symm,(Below.refl _ _).alloc (Nat.le_refl _) _⟩
   ·obtain⟨n1,n2⟩:=tx_some hW e1
    have HV:Hid (v=false):=Lib.hid (by rw[hv];simp[e1]);clear hv hf h k2 k3 bk2 hm hW hWd hWs hpe e1;go_enter Tryz.func86,Tryz.ntmps86;go_wp2;go_ret;exact⟨ret_bool HV.out.symm,(Below.refl _ _).alloc (Nat.le_refl _) _⟩
  ·have bk3:(t.kind==3)=false:=by simpa using k3
   rw[okT_x k2 k3,hpe] at hv;generalize mayW t.kind t.word=x at KH hv
   cases x
   ·have HV:Hid (v=false):=Lib.hid (by rw[hv];rfl)
    clear hv hf h k2 k3 hm hW hWd hWs hpe;go_enter Tryz.func86,Tryz.ntmps86;go_wp2_with (go_at_call 97;((with_reducible refine(KH.out _).mono ?_));rintro e w' ⟨rfl,rfl⟩);go_ret;exact⟨ret_bool HV.out.symm,(Below.refl _ _).alloc (Nat.le_refl _) _⟩
   ·by_cases e2:t.n=0
    ·have bn:(t.n==0)=true:=by simpa using e2
     by_cases e3:m=0
     ·obtain⟨b1,b2⟩:=nat_eq0 e3
      have HV:Hid (v=true):=Lib.hid (by rw[hv];simp[e2,e3]);clear hv hf h k2 k3 hm hW hWd hWs hpe e2 e3;go_enter Tryz.func86,Tryz.ntmps86;go_wp2_with (go_at_call 97;((with_reducible refine(KH.out _).mono ?_));rintro e w' ⟨rfl,rfl⟩);go_ret;exact⟨ret_bool HV.out.symm,(Below.refl _ _).alloc (Nat.le_refl _) _⟩
     ·obtain⟨b1,b2⟩:=nat_ne0 e3
      have HV:Hid (v=false):=Lib.hid (by rw[hv];simp[e3]);clear hv hf h k2 k3 hm hW hWd hWs hpe e2 e3;go_enter Tryz.func86,Tryz.ntmps86;go_wp2_with (go_at_call 97;((with_reducible refine(KH.out _).mono ?_));rintro e w' ⟨rfl,rfl⟩);go_ret;exact⟨ret_bool HV.out.symm,(Below.refl _ _).alloc (Nat.le_refl _) _⟩
    ·have bn:(t.n==0)=false:=by simpa using e2
     have HV:Hid (v=false):=Lib.hid (by rw[hv];simp[e2]);clear hv hf h k2 k3 hm hW hWd hWs hpe e2;go_enter Tryz.func86,Tryz.ntmps86;go_wp2_with (go_at_call 97;((with_reducible refine(KH.out _).mono ?_));rintro e w' ⟨rfl,rfl⟩);go_ret;exact⟨ret_bool HV.out.symm,(Below.refl _ _).alloc (Nat.le_refl _) _⟩
def textB (t:Tok):ByteArray:=if okT t then ⟨(textT t).toArray⟩ else ⟨#[]⟩
def errB (t:Tok):Int:=if okT t then 0 else 5
theorem textT_2 {t:Tok} (h:t.kind=2):textT t=Lib.itoa t.n:=by unfold textT;rw[if_pos h]
theorem textT_3 {t:Tok} (h:t.kind=3):textT t=print t.parts:=by unfold textT;rw[if_neg (by omega),if_pos h]
theorem textT_5 {t:Tok} (h:t.kind=5):textT t=45::t.word:=by unfold textT;rw[if_neg (by omega),if_neg (by omega),if_pos h]
theorem textT_6 {t:Tok} (h:t.kind=6):textT t=36::t.word:=by unfold textT;rw[if_neg (by omega),if_neg (by omega),if_neg (by omega),if_pos h]
theorem textT_x {t:Tok} (h2:¬ t.kind=2) (h3:¬ t.kind=3) (h5:¬ t.kind=5) (h6:¬ t.kind=6):textT t=t.word:=by unfold textT;rw[if_neg h2,if_neg h3,if_neg h5,if_neg h6]
theorem text_any (t:Tok) (A:Option Addr) (c:Nat) (w:World) (h:Rd w.heap.size w A t.parts.length t.parts) (hf:FitT t) (hG:Given w):
  Calls Tryz.prog 42 #[tokA t A c] w fun e w'=>e= .returned (.tuple #[.string (textB t),.int .i64 (errB t)])∧Below w.heap.size w w':=by
 have HG:=Lib.hid hG;have KB:Hid (∀ w',Below w.heap.size w w'→Calls Tryz.prog 86 #[tokA t A c] w' fun e w2=>e= .returned (.bool (okT t))∧Below w'.heap.size w' w2):=Lib.hid fun w' hb=>maybe_any t A c w' (h.onto hb) hf
 obtain⟨T,hT⟩:∃ T,T=textB t:=⟨_,rfl⟩;rw[←hT];unfold textB at hT;unfold errB;have hok:okT t=true→okT t=true:=fun h=>h
 unfold tokA at KB ⊢;obtain⟨W,hW⟩:∃ W:ByteArray,W=⟨t.word.toArray⟩:=⟨_,rfl⟩;have hWs:W.size≤100000:=by rw[←len_data,hW];exact hf.word
 rw[←hW] at KB ⊢
 have KP:okT t=true→t.kind=3→Hid (∀ w',Below w.heap.size w w'→Calls Tryz.prog 88 #[.slice A t.parts.length c] w' fun e w2=>e= .returned (.tuple #[.string ⟨(print t.parts).toArray⟩,.int .i64 0])∧Below w'.heap.size w' w2):=fun ho h3=>Lib.hid fun w' hb=>
  print_yes A _ c t.parts w' (h.onto hb) (by have:=hf.parts;omega) (fun p hp=>by have:=hf.names p hp;omega) (fun p hp=>by have:=hf.texts p hp;omega) (by have:=hf.print;omega) (by rw[okT_3 h3] at ho;simp at ho;exact ho.2)
 obtain⟨m,hm⟩:∃ m,m=t.parts.length:=⟨_,rfl⟩;rw[←hm] at KB KP ⊢;generalize okT t=b at KB hT hok KP ⊢
 cases b
 ·rw[if_neg (by decide)] at hT
  rw[if_neg (by decide)];have HT:=Lib.hid hT;clear hT hok KP hW hm h hf hG;go_enter Tryz.func42,Tryz.ntmps42;go_wp2_with (go_at_call 86;((with_reducible refine(KB.out _ ((Below.refl _ _).alloc (Nat.le_refl _) _)).mono ?_));rintro e w1 ⟨rfl,hb⟩)
  go_ret2
  exact⟨ret_so HT.out.symm,((Below.refl _ _).alloc (Nat.le_refl _) _).trans (hb.mono (by simp))⟩
 ·rw[if_pos rfl] at hT
  rw[if_pos rfl];by_cases k2:t.kind=2
  ·rw[textT_2 k2] at hT
   have K:=Lib.hid fun w hg=>print_any t.n hf.n w hg
   rw[←hT] at K;rw[k2] at KB ⊢;clear hT hok KP hW hm h hf hG k2;go_enter Tryz.func42,Tryz.ntmps42;go_wp2_with (first | (go_at_call 86;((with_reducible refine(KB.out _ ((Below.refl _ _).alloc (Nat.le_refl _) _)).mono ?_));rintro e w1 ⟨rfl,hb⟩;obtain⟨hc,hfz⟩:=bcell hb;have hz:=size_le hb;have HB1:=Lib.hid (((Below.refl w.heap.size w).alloc (Nat.le_refl _) _).trans (hb.mono (by simp)));clear hb) | (go_at_call 87;((with_reducible refine(K.out _ (HG.out.below HB1.out)).mono ?_));rintro e w2 ⟨rfl,hb2⟩))
   go_ret2
   exact⟨rfl,HB1.out.trans (hb2.mono (HB1.out.size))⟩
  ·have b2:(t.kind==2)=false:=by simpa using k2
   by_cases k3:t.kind=3
   ·rw[textT_3 k3] at hT
    have K:=KP rfl k3;rw[←hT] at K;rw[k3] at KB b2 ⊢;clear hT hok KP hW hm h hf hG k2 k3;go_enter Tryz.func42,Tryz.ntmps42;go_wp2_with (first | (go_at_call 86;((with_reducible refine(KB.out _ ((Below.refl _ _).alloc (Nat.le_refl _) _)).mono ?_));rintro e w1 ⟨rfl,hb⟩;obtain⟨hc,hfz⟩:=bcell hb;have hz:=size_le hb;have HB1:=Lib.hid (((Below.refl w.heap.size w).alloc (Nat.le_refl _) _).trans (hb.mono (by simp)));clear hb) | (go_at_call 88;((with_reducible refine(K.out _ HB1.out).mono ?_));rintro e w2 ⟨rfl,hb2⟩))
    go_ret2
    exact⟨rfl,HB1.out.trans (hb2.mono (HB1.out.size))⟩
   ·have b3:(t.kind==3)=false:=by simpa using k3
    by_cases k5:t.kind=5
    ·rw[textT_5 k5] at hT
     have HT:Hid (T=⟨#[45]⟩++W):=Lib.hid (by rw[hT];exact(ba_eq _ _ (cat_data ⟨#[45]⟩ W [45] t.word rfl (by rw[hW]))).symm);rw[k5] at KB b2 b3 ⊢;clear hT hok KP hW hm h hf hG k2 k3 k5;go_enter Tryz.func42,Tryz.ntmps42;go_wp2_with (go_at_call 86;((with_reducible refine(KB.out _ ((Below.refl _ _).alloc (Nat.le_refl _) _)).mono ?_));rintro e w1 ⟨rfl,hb⟩;obtain⟨hc,hfz⟩:=bcell hb;have hz:=size_le hb;have HB1:=Lib.hid (((Below.refl w.heap.size w).alloc (Nat.le_refl _) _).trans (hb.mono (by simp)));clear hb)
     go_ret2
     exact⟨ret_so HT.out.symm,HB1.out⟩
    ·have b5:(t.kind==5)=false:=by simpa using k5
     by_cases k6:t.kind=6
     ·rw[textT_6 k6] at hT
      have HT:Hid (T=⟨#[36]⟩++W):=Lib.hid (by rw[hT];exact(ba_eq _ _ (cat_data ⟨#[36]⟩ W [36] t.word rfl (by rw[hW]))).symm);rw[k6] at KB b2 b3 b5 ⊢;clear hT hok KP hW hm h hf hG k2 k3 k5 k6;go_enter Tryz.func42,Tryz.ntmps42;go_wp2_with (go_at_call 86;((with_reducible refine(KB.out _ ((Below.refl _ _).alloc (Nat.le_refl _) _)).mono ?_));rintro e w1 ⟨rfl,hb⟩;obtain⟨hc,hfz⟩:=bcell hb;have hz:=size_le hb;have HB1:=Lib.hid (((Below.refl w.heap.size w).alloc (Nat.le_refl _) _).trans (hb.mono (by simp)));clear hb)
      go_ret2
      exact⟨ret_so HT.out.symm,HB1.out⟩
     ·have b6:(t.kind==6)=false:=by simpa using k6
      rw[textT_x k2 k3 k5 k6] at hT;have HT:Hid (T=W):=Lib.hid (by rw[hT,hW]);have K:=Lib.hid fun w=>tclone_any W (by omega) w
      clear hT hok KP hW hm h hf hG k2 k3 k5 k6;go_enter Tryz.func42,Tryz.ntmps42;go_wp2_with (first | (go_at_call 86;((with_reducible refine(KB.out _ ((Below.refl _ _).alloc (Nat.le_refl _) _)).mono ?_));rintro e w1 ⟨rfl,hb⟩;obtain⟨hc,hfz⟩:=bcell hb;have hz:=size_le hb;have HB1:=Lib.hid (((Below.refl w.heap.size w).alloc (Nat.le_refl _) _).trans (hb.mono (by simp)));clear hb) | (go_at_call 89;((with_reducible refine(K.out _).mono ?_));rintro e w2 ⟨rfl,hb2⟩))
      go_ret2
      exact⟨ret_so HT.out.symm,HB1.out.trans (hb2.mono (HB1.out.size))⟩
theorem add_oneT (ad:Addr) (m i:Nat) (h:0<i):(⟨(ad.add m).block,(ad.add m).off+i,none⟩:Addr)=ad.add (m+i):=by
 unfold Addr.add;by_cases hk:m=0
 ·subst hk
  have:¬ i=0:=by omega
  simp[this]
 ·have:¬ m+i=0:=by omega
  simp[hk,Nat.add_assoc]
def At5 (w:World) (a:Addr) (t:Tok) (A:Option Addr) (c:Nat):Prop:=
 w.cell? a=some (.int .i64 t.kind)∧w.cell? ⟨a.block,a.off+1,none⟩=some (.string ⟨t.word.toArray⟩)∧w.cell? ⟨a.block,a.off+2,none⟩=some (.int .i64 t.n)∧w.cell? ⟨a.block,a.off+3,none⟩=some (.slice A t.parts.length c)∧w.cell? ⟨a.block,a.off+4,none⟩=some (.int .i64 t.pl)
def RdT (B:Nat) (w:World) (A:Option Addr) (n:Nat) (ts:List Tok):Prop:=n=ts.length∧(0<n→∃ ad,A=some ad∧ad.block<B∧∀ i t,ts[i]?=some t→
 ∃ A' c',At5 w (ad.add (i * 5)) t A' c'∧Rd B w A' t.parts.length t.parts)
theorem RdA.up {B B':Nat} {w:World} {ad:Addr} {ps:List Pt} (h:RdA B w ad ps) (hB:B≤B'):RdA B' w ad ps:=⟨Nat.lt_of_lt_of_le h.1 hB,h.2⟩
theorem Rd.up {B B':Nat} {w:World} {A:Option Addr} {n:Nat} {ps:List Pt} (h:Rd B w A n ps) (hB:B≤B'):Rd B' w A n ps:=
 ⟨h.1,fun hn=>by obtain⟨ad,e,hr⟩:=h.2 hn;exact⟨ad,e,hr.up hB⟩⟩
theorem At5.keep {B:Nat} {w w':World} {a:Addr} {t:Tok} {A:Option Addr} {c:Nat} (h:At5 w a t A c) (hB:a.block<B) (hb:Below B w w'):At5 w' a t A c:=
 ⟨(hb.cell hB).trans h.1,(hb.cell (p:=⟨a.block,a.off+1,none⟩) hB).trans h.2.1,(hb.cell (p:=⟨a.block,a.off+2,none⟩) hB).trans h.2.2.1,(hb.cell (p:=⟨a.block,a.off+3,none⟩) hB).trans h.2.2.2.1,(hb.cell (p:=⟨a.block,a.off+4,none⟩) hB).trans h.2.2.2.2⟩
theorem RdT.keep {B:Nat} {w w':World} {A:Option Addr} {n:Nat} {ts:List Tok} (h:RdT B w A n ts) (hb:Below B w w'):RdT B w' A n ts:=by
 refine⟨h.1,fun hn=>?_⟩;obtain⟨ad,e,hlt,hc⟩:=h.2 hn;refine⟨ad,e,hlt,fun i t ht=>?_⟩;obtain⟨A',c',h5,hr⟩:=hc i t ht;exact⟨A',c',h5.keep (by rw[block_of_add];exact hlt) hb,hr.keep hb⟩
theorem RdT.up {B B':Nat} {w:World} {A:Option Addr} {n:Nat} {ts:List Tok} (h:RdT B w A n ts) (hB:B≤B'):RdT B' w A n ts:=by
 refine⟨h.1,fun hn=>?_⟩;obtain⟨ad,e,hlt,hc⟩:=h.2 hn;refine⟨ad,e,by omega,fun i t ht=>?_⟩;obtain⟨A',c',h5,hr⟩:=hc i t ht;exact⟨A',c',h5,hr.up hB⟩
theorem RdT.at_ {B:Nat} {w:World} {A:Option Addr} {n:Nat} {ts:List Tok} {k:Nat} {t:Tok} (h:RdT B w A n ts) (hk:ts[k]?=some t):
  ∃ ad A' c',A=some ad∧At5 w (ad.add (k * 5)) t A' c'∧Rd B w A' t.parts.length t.parts:=by
 obtain⟨ad,e,_,hc⟩:=h.2 (by have:=(List.getElem?_eq_some_iff.1 hk).1;have:=h.1;omega);obtain⟨A',c',h5,hr⟩:=hc k t hk;exact⟨ad,A',c',e,h5,hr⟩
theorem cellsT_at:∀ (l:List Tv) (k:Nat) (x:Tv),l[k]?=some x→(cellsT l)[k * 5]?=some (.int .i64 x.1.kind)∧(cellsT l)[k * 5+1]?=some (.string ⟨x.1.word.toArray⟩)∧(cellsT l)[k * 5+2]?=some (.int .i64 x.1.n)∧(cellsT l)[k * 5+3]?=some x.2∧(cellsT l)[k * 5+4]?=some (.int .i64 x.1.pl)
 | [],k,p,h=>by simp at h
 | q::r,0,p,h=>by
   injection h with h;subst h;rw[cellsT_cons];simp
 | q::r,k+1,p,h=>by
   have ih:=cellsT_at r k p (by simpa using h);rw[cellsT_cons,show (k+1) * 5=k * 5+5 by omega];simpa using ih
theorem rdt_of_own {w0 w:World} {B:Nat} {v:Value} {l:List Tv} (h:Tks B w0 w v l):∃ A c,v= .slice A l.length c∧RdT w.heap.size w A l.length (l.map (·.1)):=by
 rcases h.row.2 with ⟨rfl,h0⟩ | ⟨g,cap,cur,rfl,hb,hg,_⟩
 ·exact⟨none,0,by rw[h0],by simp,fun hn=>by omega⟩
 ·refine⟨_,_,rfl,by simp,fun hn=>⟨_,rfl,(Array.getElem?_eq_some_iff.1 hg).1,fun i gl hi=>?_⟩⟩
  rw[List.getElem?_map,Option.map_eq_some_iff] at hi;obtain⟨x,hx,rfl⟩:=hi;obtain⟨c0,c1,c2,c3,c4⟩:=cellsT_at l i x hx;have hs:=h.parts x (List.mem_of_getElem? hx);obtain⟨A',c',e,hr⟩:=rd_of_own (ps:=x.1.parts) hs;refine⟨A',c',⟨h.row.cells (g:=g) rfl _ _ c0,?_,?_,?_,?_⟩,hr⟩
  ·rw[add_oneT _ _ _ (by omega)];exact h.row.cells (g:=g) rfl _ _ c1
  ·rw[add_oneT _ _ _ (by omega)];exact h.row.cells (g:=g) rfl _ _ c2
  ·rw[add_oneT _ _ _ (by omega),h.row.cells (g:=g) rfl _ _ c3,e]
  ·rw[add_oneT _ _ _ (by omega)];exact h.row.cells (g:=g) rfl _ _ c4
def joinT:List Tok→Bs
 | []=>[]
 | t::r=>textT t++r.flatMap fun t=>32::textT t
theorem joinT_snoc (l:List Tok) (t:Tok):joinT (l++[t])=joinT l++(if l=[] then [] else [32])++textT t:=by
 cases l with
 | nil=>simp[joinT]
 | cons x r=>simp[joinT]
def joinE (ts:List Tok):Int:=if ts.all okT then (if 2000<(joinT ts).length then 2 else 0) else 5
def joinB (ts:List Tok):ByteArray:=if ts.all okT∧¬ 2000<(joinT ts).length then ⟨(joinT ts).toArray⟩ else ⟨#[]⟩
theorem textT_len {t:Tok} (h:FitT t):(textT t).length≤100001:=by
 unfold textT
 split
 ·have:=Lib.itoa_length_le t.n h.n.1 h.n.2;omega
 ·split
  ·have:=h.print;omega
  ·split
   ·have:=h.word;rw[List.length_cons];omega
   ·split
    ·have:=h.word;rw[List.length_cons];omega
    ·have:=h.word;omega
structure JI (ts:List Tok) (k:Nat) (O:Bs):Prop where
 ok:(ts.take k).all okT=true
 out:O=joinT (ts.take k)∨(2000<O.length∧2000<(joinT (ts.take k)).length)
 len:O.length≤200000
theorem JI.start (ts:List Tok):JI ts 0 []:=⟨rfl,.inl rfl,by simp⟩
theorem take_snocT {ts:List Tok} {k:Nat} {t:Tok} (h:ts[k]?=some t):ts.take (k+1)=ts.take k++[t]:=by
 obtain⟨hk,e⟩:=List.getElem?_eq_some_iff.1 h;rw[List.take_succ_eq_append_getElem hk,e]
theorem JI.skip {ts:List Tok} {k:Nat} {O:Bs} {t:Tok} (h:JI ts k O) (ht:ts[k]?=some t) (ho:okT t=true) (hl:2000<O.length):JI ts (k+1) O:=by
 refine⟨by rw[take_snocT ht,List.all_append,h.ok];simp[ho],.inr ⟨hl,?_⟩,h.len⟩;rw[take_snocT ht,joinT_snoc,List.length_append,List.length_append]
 rcases h.out with e | e
 ·rw[←e];omega
 ·omega
theorem JI.first {ts:List Tok} {k:Nat} {O:Bs} {t:Tok} (h:JI ts k O) (hk:k=0) (ht:ts[k]?=some t) (ho:okT t=true) (hf:FitT t) (hl:¬ 2000<O.length):JI ts (k+1) (O++textT t):=by
 subst hk;have:=textT_len hf;refine⟨by rw[take_snocT ht,List.all_append,h.ok];simp[ho],.inl ?_,by rw[List.length_append];omega⟩
 rcases h.out with e | e
 ·rw[take_snocT ht,joinT_snoc,←e];simp
 ·omega
theorem JI.more {ts:List Tok} {k:Nat} {O:Bs} {t:Tok} (h:JI ts k O) (hk:0<k) (ht:ts[k]?=some t) (ho:okT t=true) (hf:FitT t) (hl:¬ 2000<O.length):JI ts (k+1) (O++[32]++textT t):=by
 have:=textT_len hf;refine⟨by rw[take_snocT ht,List.all_append,h.ok];simp[ho],.inl ?_,by simp;omega⟩
 have hne:¬ ts.take k=[]:=by
  intro e;have h1:=congrArg List.length e;have h2:=(List.getElem?_eq_some_iff.1 ht).1;rw[List.length_take,List.length_nil] at h1;omega
 rcases h.out with e | e
 ·rw[take_snocT ht,joinT_snoc,if_neg hne,←e]
 ·omega
theorem JI.bad {ts:List Tok} {k:Nat} {t:Tok} (ht:ts[k]?=some t) (ho:okT t=false):joinE ts=5∧joinB ts=⟨#[]⟩:=by
 have:ts.all okT=false:=by rw[List.all_eq_false];exact⟨t,List.mem_of_getElem? ht,by simp[ho]⟩
 unfold joinE joinB;rw[this];exact⟨rfl,by simp⟩
theorem JI.long {ts:List Tok} {k:Nat} {O:Bs} (h:JI ts k O) (hk:¬ k<ts.length) (hl:2000<O.length):joinE ts=2∧joinB ts=⟨#[]⟩:=by
 have h1:=h.ok;have h2:=h.out;rw[List.take_of_length_le (by omega)] at h1 h2
 have h3:2000<(joinT ts).length:=by
  rcases h2 with e | e
  ·rw[←e];exact hl
  ·exact e.2
 unfold joinE joinB;rw[h1,if_pos rfl,if_pos h3,if_neg (by simp;omega)];exact⟨rfl,rfl⟩
theorem JI.done {ts:List Tok} {k:Nat} {O:Bs} (h:JI ts k O) (hk:¬ k<ts.length) (hl:¬ 2000<O.length):joinE ts=0∧joinB ts=⟨O.toArray⟩:=by
 have h1:=h.ok;have h2:=h.out;rw[List.take_of_length_le (by omega)] at h1 h2
 have h3:O=joinT ts:=by
  rcases h2 with e | e
  ·exact e
  ·omega
 unfold joinE joinB;rw[←h3,h1,if_pos rfl,if_neg hl,if_pos ⟨rfl,hl⟩];exact⟨rfl,rfl⟩
abbrev RowO (B:Nat) (w0 w:World) (v:Value) (O:Bs):Prop:=Two2 B w0 w (.slice none 0 0) v [] O
theorem RowO.str {B:Nat} {w0 w w':World} {v v':Value} {O:Bs} {s:ByteArray} (u:Bs) (hu:s.data.toList=u) (h:RowO B w0 w v O)
  (ho:w'.ownsRow B 5 1 v' (O.length+s.size) (byteCells O++Lib.strCells s)) (hg:w.grownBy w' v.ownBlock):RowO B w0 w' v' (O++u):=by
 have e:s.size=u.length:=by rw[←len_data,hu]
 rw[Lib.strCells_eq,hu,e] at ho;exact h.bytes u ho hg
theorem conv_any {w:World} {B:Nat} {v:Value} {t:Bs} (h:w.ownsRow B 5 1 v t.length (byteCells t)):(v= .slice none 0 0∧t=[])∨∃ g c,v= .slice (some ⟨g,0,none⟩) t.length c∧(convert 86 9 v).run Tryz.prog w= .ok (.string ⟨t.toArray⟩) w:=by
 rcases text_form h with ⟨e,e2⟩ | ⟨g,cap,rfl,_⟩
 ·exact .inl ⟨e,e2⟩
 ·exact .inr ⟨g,cap,rfl,text_conv h⟩
end Go.Proofs.YtngfihoempcplaaGreatDoor
