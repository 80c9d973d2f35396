import Derived.Test.YtdobinjbejagcaaGreatDoorName
import Derived.Test.YtdobinjbejagcaaGreatDoorNRPrint
import Derived.Test.YtdobinjbejagcaaGreatDoorPlainC
import Derived.Deep.Onto
namespace Go.Proofs.YtdobinjbejagcaaGreatDoor
open Go Go.RowKit
set_option maxHeartbeats 1000000
structure Tok where
 kind:Int
 word:Bs
 n:Int
 parts:List Pt
 pl:Int
def runL (p:UInt8→Bool):Bs→Nat
 | []=>0
 | c::r=>if p c then runL p r+1 else 0
theorem runL_cons (p:UInt8→Bool) (c:UInt8) (r:Bs):runL p (c::r)=if p c then runL p r+1 else 0:=rfl
theorem runL_le (p:UInt8→Bool):∀ l:Bs,runL p l≤l.length
 | []=>Nat.le_refl _
 | c::r=>by
   have:=runL_le p r;rw[runL_cons];split
   ·simp;omega
   ·simp
theorem runL_all (p:UInt8→Bool):∀ l:Bs,(l.take (runL p l)).all p=true
 | []=>rfl
 | c::r=>by
   have:=runL_all p r;rw[runL_cons];split
   ·rename_i h;rw[List.take_succ_cons,List.all_cons,h,this];rfl
   ·rfl
theorem runL_stop (p:UInt8→Bool):∀ (w rest:Bs),w.all p=true→(∀ c,rest.head?=some c→p c=false)→runL p (w++rest)=w.length
 | [],rest,_,h=>by
   cases rest with
   | nil=>rfl
   | cons c r=>rw[List.nil_append,runL_cons,h c rfl];rfl
 | c::w,rest,ha,h=>by
   rw[List.all_cons,Bool.and_eq_true] at ha;rw[List.cons_append,runL_cons,if_pos ha.1,runL_stop p w rest ha.2 h,List.length_cons]
theorem runL_full (p:UInt8→Bool):∀ l:Bs,(runL p l=l.length)=(l.all p=true)
 | []=>by simp[runL]
 | c::r=>by
   have ih:=runL_full p r;rw[runL_cons,List.all_cons];by_cases h:p c=true
   ·rw[if_pos h,h,List.length_cons,Bool.true_and,←ih]
    exact propext ⟨fun e=>by omega,fun e=>by omega⟩
   ·rw[if_neg h,Bool.eq_false_iff.2 h,List.length_cons,Bool.false_and]
    exact propext ⟨fun e=>by omega,fun e=>by cases e⟩
def isBl (c:UInt8):Bool:=decide ((c.toNat:Int)=32∨(c.toNat:Int)=9∨(c.toNat:Int)=10)
def notNl (c:UInt8):Bool:=decide (¬ (c.toNat:Int)=10)
def gap:Bool→Bs→Nat
 | _,[]=>0
 | true,c::r=>gap (notNl c) r+1
 | false,c::r=>if isBl c then gap false r+1 else if c=35 then gap true r+1 else 0
theorem gap_nil (m:Bool):gap m []=0:=by cases m <;> rfl
theorem gap_true (c:UInt8) (r:Bs):gap true (c::r)=gap (notNl c) r+1:=rfl
theorem gap_false (c:UInt8) (r:Bs):gap false (c::r)=if isBl c then gap false r+1 else if c=35 then gap true r+1 else 0:=rfl
theorem gap_le:∀ (m:Bool) (l:Bs),gap m l≤l.length
 | m,[]=>by rw[gap_nil];exact Nat.le_refl _
 | true,c::r=>by rw[gap_true,List.length_cons];have:=gap_le (notNl c) r;omega
 | false,c::r=>by
   rw[gap_false,List.length_cons];have h1:=gap_le false r;have h2:=gap_le true r
   split
   ·omega
   ·split <;> omega
theorem notNl_bl (c:UInt8) (h:notNl c=false):isBl c=true:=by
 unfold notNl at h;unfold isBl;simp only[decide_not,Bool.not_eq_false',decide_eq_true_eq] at h;simp[h]
theorem gap_remark:∀ r:Bs,gap true r=runL notNl r+gap false (r.drop (runL notNl r))
 | []=>rfl
 | c::r=>by
   rw[gap_true,runL_cons];by_cases h:notNl c=true
   ·rw[if_pos h,h,gap_remark r,List.drop_succ_cons];omega
   ·have h:=Bool.eq_false_iff.2 h
    rw[h,if_neg (by decide),List.drop_zero,gap_false,if_pos (notNl_bl c h)];omega
theorem gap_hash (r:Bs):gap false (35::r)=(runL notNl (35::r))+gap false ((35::r).drop (runL notNl (35::r))):=by
 have e:runL notNl (35::r)=runL notNl r+1:=by rw[runL_cons,if_pos (by decide)]
 rw[gap_false,if_neg (by decide),if_pos rfl,e,List.drop_succ_cons,gap_remark];omega
theorem gap_zero (l:Bs) (h:∀ c,l.head?=some c→isBl c=false∧c≠35):gap false l=0:=by
 cases l with
 | nil=>rfl
 | cons c r=>
   obtain⟨h1,h2⟩:=h c rfl;rw[gap_false,if_neg (by rw[h1];decide),if_neg h2]
def isWordL (w:Bs):Bool:=match w with
 | []=>false
 | c::r=>isLow c && r.all isIn && decide (r.length≤13)
def isFlagL (w:Bs):Bool:=decide (w=[105]∨w=[101,120]∨w=[103,108]∨w=[114,101])
def sgns:List Bs:=[[60,61],[62,61],[61,61],[33,61],[38,38],[124,124],[123],[125],[40],[41],[43],[45],[42],[47],[37],[60],[62],[33]]
def isSignL (w:Bs):Bool:=sgns.contains w
def signL (l:Bs):Nat:=if isSignL (l.take 2) then (l.take 2).length else if isSignL (l.take 1) then 1 else 0
def mayW (k:Int) (w:Bs):Bool:=if k=1 then isWordL w else if k=4 then isSignL w else if k=5 then isFlagL w else if k=6 then isName w else false
def okT (t:Tok):Bool:=
 if t.kind=2 then t.word.isEmpty && decide (0≤t.n) && t.parts.isEmpty
 else if t.kind=3 then t.word.isEmpty && decide (t.n=0) && may false t.parts
 else mayW t.kind t.word && decide (t.n=0) && t.parts.isEmpty
def textT (t:Tok):Bs:=
 if t.kind=2 then Lib.itoa t.n else if t.kind=3 then print t.parts else if t.kind=5 then 45::t.word else if t.kind=6 then 36::t.word else t.word
def numR (l:Bs):Int × Int:=if l.head?=some 48∧¬ l.length=1 then (0,1) else if valN l<9223372036854775808 then ((valN l:Int),0) else (0,3)
inductive TR where
 | bad (q:Nat) (e:Int) | ok (t:Tok) (q:Nat)
def wordR (k:Int) (w:Bs) (q:Nat):TR:=if mayW k w then .ok ⟨k,w,0,[],0⟩ q else .bad 0 1
def numT (l:Bs):TR:=if (numR (l.take (runL isDig l))).2=0 then .ok ⟨2,[],(numR (l.take (runL isDig l))).1,[],0⟩ (runL isDig l) else .bad 0 (numR (l.take (runL isDig l))).2
def textR (l:Bs):TR:=match parse l with
 | (none,q)=> .bad q 1
 | (some ps,q)=> .ok ⟨3,[],0,ps,0⟩ q
def lowHead (l:Bs):Bool:=match l with
 | []=>false
 | c::_=>isLow c
def tokR (l:Bs):TR:=match l with
 | []=> .bad 0 1
 | c::r=>
   if c=34 then textR l
   else if isDig c then numT l
   else if isLow c then wordR 1 (l.take (runL isIn l)) (runL isIn l)
   else if c=36 then wordR 6 (r.take (runL isIn r)) (runL isIn r+1)
   else if c=45∧lowHead r=true then wordR 5 (r.take (runL isLow r)) (runL isLow r+1)
   else wordR 4 (l.take (signL l)) (signL l)
def behind (s:Bs) (k:Nat):Nat:=k+gap false (s.drop k)
theorem behind_ge (s:Bs) (k:Nat):k≤behind s k:=by unfold behind;omega
theorem behind_le (s:Bs) (k:Nat) (h:k≤s.length):behind s k≤s.length:=by
 have:=gap_le false (s.drop k);rw[List.length_drop] at this;unfold behind;omega
def withPl (t:Tok) (k:Int):Tok:=⟨t.kind,t.word,t.n,t.parts,k⟩
def goT (s:Bs) (k:Nat) (acc:List Tok):Option (List Tok) × Nat × Int:=
 if k<s.length then (match tokR (s.drop k) with
  | .bad q e=>(none,k+q,e)
  | .ok t q=>if 0<q then goT s (behind s (k+q)) (acc++[withPl t k]) else (none,0,1))
 else (some acc,0,0)
termination_by s.length - k
decreasing_by
 have:=behind_ge s (k+q);omega
def scan (s:Bs):Option (List Tok) × Nat × Int:=if 2000<s.length then (none,2000,2) else goT s (behind s 0) []
theorem sign_cases {w:Bs} (h:isSignL w=true):w∈sgns:=by unfold isSignL at h;exact List.contains_iff_mem.1 h
theorem sign_len {w:Bs} (h:isSignL w=true):0<w.length∧w.length≤2:=by
 have h:=sign_cases h;unfold sgns at h;simp only[List.mem_cons,List.not_mem_nil,or_false] at h
 rcases h with h | h | h | h | h | h | h | h | h | h | h | h | h | h | h | h | h | h <;> (subst h;decide)
theorem sign_nil:isSignL []=false:=by decide
theorem take2_le (l:Bs):(l.take 2).length≤l.length:=by rw[List.length_take];omega
theorem signL_le (l:Bs):signL l≤l.length:=by
 unfold signL
 split
 ·exact take2_le l
 ·split
  ·rename_i h
   have:=(sign_len h).1;rw[List.length_take] at this;omega
  ·exact Nat.zero_le _
theorem signL_pos {l:Bs} (h:isSignL (l.take (signL l))=true):0<signL l:=by
 rcases Nat.eq_zero_or_pos (signL l) with e | e
 ·rw[e,List.take_zero,sign_nil] at h;cases h
 ·exact e
theorem low_in (c:UInt8) (h:isLow c=true):isIn c=true:=by unfold isIn;rw[h];rfl
theorem numR_facts (l:Bs):0≤(numR l).1∧(numR l).1≤9223372036854775807∧((numR l).2=0∨(numR l).2=1∨(numR l).2=3):=by
 unfold numR
 split
 ·exact⟨by decide,by decide,.inr (.inl rfl)⟩
 ·split
  ·rename_i h
   exact⟨Int.natCast_nonneg _,by dsimp only;omega,.inl rfl⟩
  ·exact⟨by decide,by decide,.inr (.inr rfl)⟩
theorem wordR_ok {k:Int} {w:Bs} {q q':Nat} {t:Tok} (h:wordR k w q= .ok t q'):q'=q∧t=⟨k,w,0,[],0⟩∧mayW k w=true:=by
 unfold wordR at h
 split at h
 ·rename_i hm
  injection h with h1 h2
  exact⟨h2.symm,h1.symm,hm⟩
 ·cases h
theorem wordR_bad {k:Int} {w:Bs} {q q':Nat} {e:Int} (h:wordR k w q= .bad q' e):q'=0∧e=1:=by
 unfold wordR at h
 split at h
 ·cases h
 ·injection h with h1 h2;exact⟨h1.symm,h2.symm⟩
theorem okT_word {k:Int} {w:Bs} (h2:k≠2) (h3:k≠3) (h:mayW k w=true):okT ⟨k,w,0,[],0⟩=true:=by
 unfold okT;dsimp only;rw[if_neg h2,if_neg h3,h];rfl
theorem tokR_ok {l:Bs} {t:Tok} {q:Nat} (h:tokR l= .ok t q):0<q∧q≤l.length∧okT t=true∧t.pl=0∧t.n≤9223372036854775807∧t.word.length≤l.length∧(t.parts=[]∨∃ q',parse l=(some t.parts,q')):=by
 cases l with
 | nil=>cases h
 | cons c r=>
   unfold tokR at h;dsimp only at h
   split at h
   ·unfold textR at h
    split at h
    ·cases h
    ·rename_i ps q' hp
     injection h with h1 h2
     subst h1 h2;have hb:=parse_bd (c::r);rw[hp] at hb;have hm:=parse_may (c::r) ps (by rw[hp]);refine⟨(hb.2 rfl).1,hb.1,?_,rfl,by dsimp only;omega,by simp,.inr ⟨_,hp⟩⟩;show okT ⟨3,[],0,ps,0⟩=true;unfold okT;simp[hm]
   ·split at h
    ·rename_i hd
     unfold numT at h
     split at h
     ·injection h with h1 h2
      subst h1 h2;obtain⟨n0,n1,_⟩:=numR_facts ((c::r).take (runL isDig (c::r)));refine⟨by rw[runL_cons,if_pos hd];omega,runL_le _ _,?_,rfl,n1,by simp,.inl rfl⟩;unfold okT;simp[n0]
     ·cases h
    ·split at h
     ·rename_i hl
      obtain⟨rfl,rfl,hm⟩:=wordR_ok h;exact⟨by rw[runL_cons,if_pos (low_in _ hl)];omega,runL_le _ _,okT_word (by decide) (by decide) hm,rfl,by dsimp only;omega,by dsimp only;rw[List.length_take];omega,.inl rfl⟩
     ·split at h
      ·obtain⟨rfl,rfl,hm⟩:=wordR_ok h
       have:=runL_le isIn r;exact⟨by omega,by rw[List.length_cons];omega,okT_word (by decide) (by decide) hm,rfl,by dsimp only;omega,by dsimp only;rw[List.length_take,List.length_cons];omega,.inl rfl⟩
      ·split at h
       ·obtain⟨rfl,rfl,hm⟩:=wordR_ok h
        have:=runL_le isLow r;exact⟨by omega,by rw[List.length_cons];omega,okT_word (by decide) (by decide) hm,rfl,by dsimp only;omega,by dsimp only;rw[List.length_take,List.length_cons];omega,.inl rfl⟩
       ·obtain⟨rfl,rfl,hm⟩:=wordR_ok h
        have hs:isSignL ((c::r).take (signL (c::r)))=true:=by unfold mayW at hm;simpa using hm
        exact⟨signL_pos hs,signL_le _,okT_word (by decide) (by decide) hm,rfl,by dsimp only;omega,by dsimp only;rw[List.length_take];omega,.inl rfl⟩
theorem tokR_bad {l:Bs} {e:Int} {q:Nat} (h:tokR l= .bad q e):q≤l.length∧(e=1∨e=3):=by
 cases l with
 | nil=>injection h with h1 h2;exact⟨by omega,.inl h2.symm⟩
 | cons c r=>
   unfold tokR at h;dsimp only at h
   have hw:∀ {k:Int} {w:Bs} {x:Nat},wordR k w x= .bad q e→q≤(c::r).length∧(e=1∨e=3):=by
    intro k w x h;obtain⟨rfl,rfl⟩:=wordR_bad h;exact⟨Nat.zero_le _,.inl rfl⟩
   split at h
   ·unfold textR at h
    split at h
    ·rename_i q' hp
     injection h with h1 h2
     subst h1 h2;have hb:=parse_bd (c::r);rw[hp] at hb;exact⟨hb.1,.inl rfl⟩
    ·cases h
   ·split at h
    ·unfold numT at h
     split at h
     ·cases h
     ·rename_i h0
      injection h with h1 h2
      subst h1 h2;obtain⟨_,_,n2⟩:=numR_facts ((c::r).take (runL isDig (c::r)));refine⟨Nat.zero_le _,?_⟩
      rcases n2 with n2 | n2 | n2
      ·exact absurd n2 h0
      ·exact .inl n2
      ·exact .inr n2
    ·split at h
     ·exact hw h
     ·split at h
      ·exact hw h
      ·split at h
       ·exact hw h
       ·exact hw h
theorem goT_end {s:Bs} {k:Nat} (acc:List Tok) (h:¬ k<s.length):goT s k acc=(some acc,0,0):=by rw[goT,if_neg h]
theorem goT_bad {s:Bs} {k q:Nat} {e:Int} (acc:List Tok) (h:k<s.length) (h1:tokR (s.drop k)= .bad q e):goT s k acc=(none,k+q,e):=by rw[goT,if_pos h,h1]
theorem goT_ok {s:Bs} {k q:Nat} {t:Tok} (acc:List Tok) (h:k<s.length) (h1:tokR (s.drop k)= .ok t q):goT s k acc=goT s (behind s (k+q)) (acc++[withPl t k]):=by
 rw[goT,if_pos h,h1];exact if_pos (tokR_ok h1).1
theorem goT_ind {s:Bs} (P:Nat→List Tok→Prop) (h1:∀ k acc,¬ k<s.length→P k acc) (h2:∀ k acc q e,k<s.length→tokR (s.drop k)= .bad q e→P k acc)
  (h3:∀ k acc t q,k<s.length→tokR (s.drop k)= .ok t q→0<q→k+q≤s.length→behind s (k+q)≤s.length→P (behind s (k+q)) (acc++[withPl t k])→P k acc):∀ (n k:Nat) (acc:List Tok),s.length - k<n→P k acc
 | 0,k,acc,h=>by omega
 | n+1,k,acc,h=>by
   by_cases a:k<s.length
   ·rcases ht:tokR (s.drop k) with ⟨q,e⟩ | ⟨t,q⟩
    ·exact h2 k acc q e a ht
    ·obtain⟨q0,q1,_⟩:=tokR_ok ht
     rw[List.length_drop] at q1;have hb:=behind_ge s (k+q);exact h3 k acc t q a ht q0 (by omega) (behind_le s _ (by omega)) (goT_ind P h1 h2 h3 n _ _ (by omega))
   ·exact h1 k acc a
theorem goT_all {s:Bs} (P:Nat→List Tok→Prop) (h1:∀ k acc,¬ k<s.length→P k acc) (h2:∀ k acc q e,k<s.length→tokR (s.drop k)= .bad q e→P k acc)
  (h3:∀ k acc t q,k<s.length→tokR (s.drop k)= .ok t q→0<q→k+q≤s.length→behind s (k+q)≤s.length→P (behind s (k+q)) (acc++[withPl t k])→P k acc) (k:Nat) (acc:List Tok):P k acc:=
 goT_ind P h1 h2 h3 _ k acc (Nat.lt_succ_self _)
theorem goT_cases (s:Bs) (k:Nat) (acc:List Tok):(∃ q e,goT s k acc=(none,q,e)∧(e=1∨e=3)∧q≤s.length)∨∃ out,goT s k acc=(some out,0,0):=by
 refine goT_all (s:=s) (P:=fun k acc=>(∃ q e,goT s k acc=(none,q,e)∧(e=1∨e=3)∧q≤s.length)∨∃ out,goT s k acc=(some out,0,0)) ?_ ?_ ?_ k acc
 ·intro k acc h
  exact .inr ⟨acc,goT_end acc h⟩
 ·intro k acc q e h h1
  obtain⟨a,b⟩:=tokR_bad h1;rw[List.length_drop] at a;exact .inl ⟨k+q,e,goT_bad acc h h1,b,by omega⟩
 ·intro k acc t q h h1 _ _ _ ih
  rw[goT_ok acc h h1];exact ih
structure Read1 (N:Nat) (t:Tok):Prop where
 ok:okT t=true
 n:t.n≤9223372036854775807
 word:t.word.length≤N
 parts:t.parts=[]∨∃ l q,parse l=(some t.parts,q)∧l.length≤N
theorem okT_pl (t:Tok) (k:Int):okT (withPl t k)=okT t:=rfl
theorem goT_out (s:Bs) (k:Nat) (acc:List Tok):∀ out,goT s k acc=(some out,0,0)→(∀ t∈acc,Read1 s.length t)→(∀ t∈out,Read1 s.length t)∧out.length≤acc.length+(s.length - k):=by
 refine goT_all (s:=s) (P:=fun k acc=>∀ out,goT s k acc=(some out,0,0)→(∀ t∈acc,Read1 s.length t)→(∀ t∈out,Read1 s.length t)∧out.length≤acc.length+(s.length - k)) ?_ ?_ ?_ k acc
 ·intro k acc h out ho ha
  rw[goT_end acc h] at ho;injection ho with ho _
  injection ho with ho
  subst ho;exact⟨ha,by omega⟩
 ·intro k acc q e h h1 out ho _
  rw[goT_bad acc h h1] at ho;cases ho
 ·intro k acc t q h h1 q0 q1 _ ih out ho ha
  rw[goT_ok acc h h1] at ho;obtain⟨_,_,o1,_,o3,o4,o5⟩:=tokR_ok h1;rw[List.length_drop] at o4;have hb:=behind_ge s (k+q)
  obtain⟨i1,i2⟩:=ih out ho (fun x hx=>by
   rcases List.mem_append.1 hx with hx | hx
   ·exact ha x hx
   ·rw[List.mem_singleton] at hx
    subst hx;refine⟨o1,o3,by show t.word.length≤_;omega,?_⟩
    rcases o5 with o5 | ⟨q',o5⟩
    ·exact .inl o5
    ·exact .inr ⟨_,q',o5,by rw[List.length_drop];omega⟩)
  refine⟨i1,?_⟩;rw[List.length_append] at i2;simp at i2;omega
def noPl (l:List Tok):List Tok:=l.map fun t=>withPl t 0
theorem noPl_append (a b:List Tok):noPl (a++b)=noPl a++noPl b:=by simp[noPl]
theorem noPl_one (t:Tok) (k:Int):noPl [withPl t k]=[withPl t 0]:=rfl
theorem scan_cases (s:Bs):(∃ q e,scan s=(none,q,e)∧(e=1∨e=2∨e=3)∧(s.length≤2000→e≠2))∨(∃ out,scan s=(some out,0,0)∧(∀ t∈out,Read1 s.length t)∧out.length≤s.length∧s.length≤2000):=by
 unfold scan;by_cases h:2000<s.length
 ·rw[if_pos h];exact .inl ⟨_,_,rfl,.inr (.inl rfl),fun h=>by omega⟩
 ·rw[if_neg h]
  rcases goT_cases s (behind s 0) [] with ⟨q,e,h1,h2,_⟩ | ⟨out,h1⟩
  ·exact .inl ⟨q,e,h1,by omega,fun _=>by omega⟩
  ·obtain⟨a,b⟩:=goT_out s _ _ out h1 (by simp)
   simp at b;exact .inr ⟨out,h1,a,by omega,by omega⟩
theorem tdig_any (c:UInt8) (w:World):Calls Tryz.prog 85 #[.int .u8 c.toNat] w fun e w'=>e= .returned (.bool (isDig c))∧w=w':=by
 obtain⟨n,hn⟩:∃ n:Int,n=c.toNat:=⟨_,rfl⟩;have e:isDig c=decide (48≤n∧n≤57):=by rw[hn];rfl
 rw[e,←hn];clear e hn;by_cases h1:48≤n <;> by_cases h2:n≤57
 all_goals
  go_enter Tryz.func85,Tryz.ntmps85;go_wp2;go_ret;exact⟨ret_bool (by simp[h1,h2]),rfl⟩
theorem tlow_any (c:UInt8) (w:World):Calls Tryz.prog 87 #[.int .u8 c.toNat] w fun e w'=>e= .returned (.bool (isLow c))∧w=w':=by
 obtain⟨n,hn⟩:∃ n:Int,n=c.toNat:=⟨_,rfl⟩;have e:isLow c=decide (97≤n∧n≤122):=by rw[hn];rfl
 rw[e,←hn];clear e hn;by_cases h1:97≤n <;> by_cases h2:n≤122
 all_goals
  go_enter Tryz.func87,Tryz.ntmps87;go_wp2;go_ret;exact⟨ret_bool (by simp[h1,h2]),rfl⟩
theorem tin_any (c:UInt8) (w:World):Calls Tryz.prog 89 #[.int .u8 c.toNat] w fun e w'=>e= .returned (.bool (isIn c))∧w=w':=by
 have KD:=fun w=>tdig_any c w
 have KL:=fun w=>tlow_any c w
 have e:isIn c=(isLow c || isDig c || decide ((c.toNat:Int)=95)):=rfl;rw[e];clear e;generalize isDig c=d at KD ⊢;generalize isLow c=l at KL ⊢;have HD:=Lib.hid KD;have HL:=Lib.hid KL;clear KD KL;obtain⟨n,hn⟩:∃ n:Int,n=c.toNat:=⟨_,rfl⟩;rw[←hn] at HD HL ⊢;clear hn;by_cases h:n=95
 ·subst h
  cases d <;> cases l
  all_goals
   go_enter Tryz.func89,Tryz.ntmps89;go_wp2_with (first | (go_at_call 87;((with_reducible refine(HL.out _).mono ?_));rintro e w' ⟨rfl,rfl⟩) | (go_at_call 85;((with_reducible refine(HD.out _).mono ?_));rintro e w' ⟨rfl,rfl⟩));go_ret;exact⟨rfl,rfl⟩
 ·have hb:(n==95)=false:=by simpa using h
  have hd:decide (n=95)=false:=by simpa using h
  cases d <;> cases l
  all_goals
   go_enter Tryz.func89,Tryz.ntmps89;go_wp2_with (first | (go_at_call 87;((with_reducible refine(HL.out _).mono ?_));rintro e w' ⟨rfl,rfl⟩) | (go_at_call 85;((with_reducible refine(HD.out _).mono ?_));rintro e w' ⟨rfl,rfl⟩));go_ret;exact⟨ret_bool (by simp[hd]),rfl⟩
theorem tbl_any (c:UInt8) (w:World):Calls Tryz.prog 81 #[.int .u8 c.toNat] w fun e w'=>e= .returned (.bool (isBl c))∧w=w':=by
 obtain⟨n,hn⟩:∃ n:Int,n=c.toNat:=⟨_,rfl⟩;have e:isBl c=decide (n=32∨n=9∨n=10):=by rw[hn];rfl
 rw[e,←hn];clear e hn;by_cases h1:n=32
 ·subst h1
  go_enter Tryz.func81,Tryz.ntmps81;go_wp2;go_ret;exact⟨rfl,rfl⟩
 ·have b1:(n==32)=false:=by simpa using h1
  by_cases h2:n=9
  ·subst h2
   go_enter Tryz.func81,Tryz.ntmps81;go_wp2;go_ret;exact⟨rfl,rfl⟩
  ·have b2:(n==9)=false:=by simpa using h2
   by_cases h3:n=10
   ·subst h3
    go_enter Tryz.func81,Tryz.ntmps81;go_wp2;go_ret;exact⟨rfl,rfl⟩
   ·have b3:(n==10)=false:=by simpa using h3
    have hd:decide (n=32∨n=9∨n=10)=false:=by simp[h1,h2,h3]
    rw[hd];clear h1 h2 h3 hd;go_enter Tryz.func81,Tryz.ntmps81;go_wp2;go_ret;exact⟨rfl,rfl⟩
theorem tnl_any (c:UInt8) (w:World):Calls Tryz.prog 83 #[.int .u8 c.toNat] w fun e w'=>e= .returned (.bool (notNl c))∧w=w':=by
 obtain⟨n,hn⟩:∃ n:Int,n=c.toNat:=⟨_,rfl⟩;have e:notNl c=decide (¬ n=10):=by rw[hn];rfl
 rw[e,←hn];clear e hn;by_cases h1:n=10
 ·subst h1
  go_enter Tryz.func83,Tryz.ntmps83;go_wp2;go_ret;exact⟨rfl,rfl⟩
 ·have b1:(n != 10)=true:=by simpa using h1
  have hd:decide (¬ n=10)=true:=by simpa using h1
  rw[hd];clear h1 hd;go_enter Tryz.func83,Tryz.ntmps83;go_wp2;go_ret;exact⟨rfl,rfl⟩
theorem runL_at (p:UInt8→Bool) (s:ByteArray) (k:Nat) (hk:k<s.size):runL p (s.data.toList.drop k)=if p s[k] then runL p (s.data.toList.drop (k+1))+1 else 0:=by rw[drop_at s k hk,runL_cons]
theorem runL_past (p:UInt8→Bool) (s:ByteArray) (k:Nat) (hk:¬ k<s.size):runL p (s.data.toList.drop k)=0:=by rw[drop_end s k hk];rfl
theorem runend_in (s:ByteArray) (k:Nat) (hk:k≤s.size) (hs:s.size≤1000000) (w:World):
  Calls Tryz.prog 82 #[.string s,.int .i64 k,.func (.func 89) #[] #[]] w fun e w'=>e= .returned (.int .i64 ((k+runL isIn (s.data.toList.drop k):Nat):Int))∧w=w':=by
 obtain⟨N,hN⟩:∃ N,N=k+runL isIn (s.data.toList.drop k):=⟨_,rfl⟩;rw[←hN];have HN:=Lib.hid hN;clear hN;go_enter Tryz.func82,Tryz.ntmps82;go_wp2
 go_loop [1] (fun a=>∃ j:Nat,j≤s.size∧a= .int .i64 j∧N=j+runL isIn (s.data.toList.drop j)) (fun a=>s.size - (intOf a).toNat)
 case atStart=>exact⟨k,hk,rfl,HN.out⟩
 case round=>
  obtain⟨j,hj,rfl,hn⟩:=hrel;have HJ:=Lib.hid hn;clear hn;by_cases a:j<s.size
  ·have K:=Lib.hid fun w=>tin_any s[j] w
   have hr:=runL_at isIn s j a;by_cases c:isIn s[j]=true
   ·rw[c] at K
    have HX:Hid (N=(j+1)+runL isIn (s.data.toList.drop (j+1))):=by apply Lib.hid;rw[HJ.out,hr,if_pos c];omega
    clear hr c;go_wp2_with (go_at_call 89;((with_reducible refine(K.out _).mono ?_));rintro e w' ⟨rfl,rfl⟩)
    go_round
    case rel=>exact⟨j+1,by omega,by go_num,HX.out⟩
    case measure=>simp[intOf];omega
   ·rw[Bool.eq_false_iff.2 c] at K
    have HX:Hid (j=N):=by apply Lib.hid;rw[HJ.out,hr,if_neg c];omega
    clear hr c;go_wp2_with (go_at_call 89;((with_reducible refine(K.out _).mono ?_));rintro e w' ⟨rfl,rfl⟩);go_ret;exact⟨ret_int (by rw[HX.out]),rfl⟩
  ·have HX:Hid (j=N):=by apply Lib.hid;rw[HJ.out,runL_past _ _ _ a];omega
   go_wp2;go_ret;exact⟨ret_int (by rw[HX.out]),rfl⟩
theorem runend_low (s:ByteArray) (k:Nat) (hk:k≤s.size) (hs:s.size≤1000000) (w:World):
  Calls Tryz.prog 82 #[.string s,.int .i64 k,.func (.func 87) #[] #[]] w fun e w'=>e= .returned (.int .i64 ((k+runL isLow (s.data.toList.drop k):Nat):Int))∧w=w':=by
 obtain⟨N,hN⟩:∃ N,N=k+runL isLow (s.data.toList.drop k):=⟨_,rfl⟩;rw[←hN];have HN:=Lib.hid hN;clear hN;go_enter Tryz.func82,Tryz.ntmps82;go_wp2
 go_loop [1] (fun a=>∃ j:Nat,j≤s.size∧a= .int .i64 j∧N=j+runL isLow (s.data.toList.drop j)) (fun a=>s.size - (intOf a).toNat)
 case atStart=>exact⟨k,hk,rfl,HN.out⟩
 case round=>
  obtain⟨j,hj,rfl,hn⟩:=hrel;have HJ:=Lib.hid hn;clear hn;by_cases a:j<s.size
  ·have K:=Lib.hid fun w=>tlow_any s[j] w
   have hr:=runL_at isLow s j a;by_cases c:isLow s[j]=true
   ·rw[c] at K
    have HX:Hid (N=(j+1)+runL isLow (s.data.toList.drop (j+1))):=by apply Lib.hid;rw[HJ.out,hr,if_pos c];omega
    clear hr c;go_wp2_with (go_at_call 87;((with_reducible refine(K.out _).mono ?_));rintro e w' ⟨rfl,rfl⟩)
    go_round
    case rel=>exact⟨j+1,by omega,by go_num,HX.out⟩
    case measure=>simp[intOf];omega
   ·rw[Bool.eq_false_iff.2 c] at K
    have HX:Hid (j=N):=by apply Lib.hid;rw[HJ.out,hr,if_neg c];omega
    clear hr c;go_wp2_with (go_at_call 87;((with_reducible refine(K.out _).mono ?_));rintro e w' ⟨rfl,rfl⟩);go_ret;exact⟨ret_int (by rw[HX.out]),rfl⟩
  ·have HX:Hid (j=N):=by apply Lib.hid;rw[HJ.out,runL_past _ _ _ a];omega
   go_wp2;go_ret;exact⟨ret_int (by rw[HX.out]),rfl⟩
theorem runend_dig (s:ByteArray) (k:Nat) (hk:k≤s.size) (hs:s.size≤1000000) (w:World):
  Calls Tryz.prog 82 #[.string s,.int .i64 k,.func (.func 85) #[] #[]] w fun e w'=>e= .returned (.int .i64 ((k+runL isDig (s.data.toList.drop k):Nat):Int))∧w=w':=by
 obtain⟨N,hN⟩:∃ N,N=k+runL isDig (s.data.toList.drop k):=⟨_,rfl⟩;rw[←hN];have HN:=Lib.hid hN;clear hN;go_enter Tryz.func82,Tryz.ntmps82;go_wp2
 go_loop [1] (fun a=>∃ j:Nat,j≤s.size∧a= .int .i64 j∧N=j+runL isDig (s.data.toList.drop j)) (fun a=>s.size - (intOf a).toNat)
 case atStart=>exact⟨k,hk,rfl,HN.out⟩
 case round=>
  obtain⟨j,hj,rfl,hn⟩:=hrel;have HJ:=Lib.hid hn;clear hn;by_cases a:j<s.size
  ·have K:=Lib.hid fun w=>tdig_any s[j] w
   have hr:=runL_at isDig s j a;by_cases c:isDig s[j]=true
   ·rw[c] at K
    have HX:Hid (N=(j+1)+runL isDig (s.data.toList.drop (j+1))):=by apply Lib.hid;rw[HJ.out,hr,if_pos c];omega
    clear hr c;go_wp2_with (go_at_call 85;((with_reducible refine(K.out _).mono ?_));rintro e w' ⟨rfl,rfl⟩)
    go_round
    case rel=>exact⟨j+1,by omega,by go_num,HX.out⟩
    case measure=>simp[intOf];omega
   ·rw[Bool.eq_false_iff.2 c] at K
    have HX:Hid (j=N):=by apply Lib.hid;rw[HJ.out,hr,if_neg c];omega
    clear hr c;go_wp2_with (go_at_call 85;((with_reducible refine(K.out _).mono ?_));rintro e w' ⟨rfl,rfl⟩);go_ret;exact⟨ret_int (by rw[HX.out]),rfl⟩
  ·have HX:Hid (j=N):=by apply Lib.hid;rw[HJ.out,runL_past _ _ _ a];omega
   go_wp2;go_ret;exact⟨ret_int (by rw[HX.out]),rfl⟩
theorem runend_nl (s:ByteArray) (k:Nat) (hk:k≤s.size) (hs:s.size≤1000000) (w:World):
  Calls Tryz.prog 82 #[.string s,.int .i64 k,.func (.func 83) #[] #[]] w fun e w'=>e= .returned (.int .i64 ((k+runL notNl (s.data.toList.drop k):Nat):Int))∧w=w':=by
 obtain⟨N,hN⟩:∃ N,N=k+runL notNl (s.data.toList.drop k):=⟨_,rfl⟩;rw[←hN];have HN:=Lib.hid hN;clear hN;go_enter Tryz.func82,Tryz.ntmps82;go_wp2
 go_loop [1] (fun a=>∃ j:Nat,j≤s.size∧a= .int .i64 j∧N=j+runL notNl (s.data.toList.drop j)) (fun a=>s.size - (intOf a).toNat)
 case atStart=>exact⟨k,hk,rfl,HN.out⟩
 case round=>
  obtain⟨j,hj,rfl,hn⟩:=hrel;have HJ:=Lib.hid hn;clear hn;by_cases a:j<s.size
  ·have K:=Lib.hid fun w=>tnl_any s[j] w
   have hr:=runL_at notNl s j a;by_cases c:notNl s[j]=true
   ·rw[c] at K
    have HX:Hid (N=(j+1)+runL notNl (s.data.toList.drop (j+1))):=by apply Lib.hid;rw[HJ.out,hr,if_pos c];omega
    clear hr c;go_wp2_with (go_at_call 83;((with_reducible refine(K.out _).mono ?_));rintro e w' ⟨rfl,rfl⟩)
    go_round
    case rel=>exact⟨j+1,by omega,by go_num,HX.out⟩
    case measure=>simp[intOf];omega
   ·rw[Bool.eq_false_iff.2 c] at K
    have HX:Hid (j=N):=by apply Lib.hid;rw[HJ.out,hr,if_neg c];omega
    clear hr c;go_wp2_with (go_at_call 83;((with_reducible refine(K.out _).mono ?_));rintro e w' ⟨rfl,rfl⟩);go_ret;exact⟨ret_int (by rw[HX.out]),rfl⟩
  ·have HX:Hid (j=N):=by apply Lib.hid;rw[HJ.out,runL_past _ _ _ a];omega
   go_wp2;go_ret;exact⟨ret_int (by rw[HX.out]),rfl⟩
theorem not_list {s:ByteArray} {l:Bs} (h:¬ s.data.toList=l):(s.toList==l)=false:=by rw[toList_data];simpa using h
theorem issign_any (s:ByteArray) (w:World):Calls Tryz.prog 117 #[.string s] w fun e w'=>e= .returned (.bool (isSignL s.data.toList))∧w=w':=by
 by_cases h:isSignL s.data.toList=true
 ·rw[h]
  have hm:=sign_cases h;clear h;unfold sgns at hm;simp only[List.mem_cons,List.not_mem_nil,or_false] at hm
  rcases hm with h | h | h | h | h | h | h | h | h | h | h | h | h | h | h | h | h | h
  all_goals
   obtain rfl:=ba_eq s _ h;clear h;go_enter Tryz.func117,Tryz.ntmps117;go_wp2;go_ret;exact⟨rfl,rfl⟩
 ·have h:=Bool.eq_false_iff.2 h
  rw[h]
  have hn:∀ x∈sgns,¬ s.data.toList=x:=fun x hx e=>by
   rw[e] at h;unfold isSignL at h;rw[List.contains_iff_mem.2 hx] at h;cases h
  have n0:=not_list (hn [60,61] (by decide));have n1:=not_list (hn [62,61] (by decide));have n2:=not_list (hn [61,61] (by decide));have n3:=not_list (hn [33,61] (by decide));have n4:=not_list (hn [38,38] (by decide));have n5:=not_list (hn [124,124] (by decide));have n6:=not_list (hn [123] (by decide));have n7:=not_list (hn [125] (by decide));have n8:=not_list (hn [40] (by decide));have n9:=not_list (hn [41] (by decide));have n10:=not_list (hn [43] (by decide));have n11:=not_list (hn [45] (by decide));have n12:=not_list (hn [42] (by decide));have n13:=not_list (hn [47] (by decide));have n14:=not_list (hn [37] (by decide));have n15:=not_list (hn [60] (by decide));have n16:=not_list (hn [62] (by decide));have n17:=not_list (hn [33] (by decide));clear hn h;go_enter Tryz.func117,Tryz.ntmps117;go_wp2;go_ret;exact⟨rfl,rfl⟩
theorem isflag_any (s:ByteArray) (w:World):Calls Tryz.prog 129 #[.string s] w fun e w'=>e= .returned (.bool (isFlagL s.data.toList))∧w=w':=by
 by_cases h:isFlagL s.data.toList=true
 ·rw[h]
  unfold isFlagL at h
  rcases of_decide_eq_true h with h | h | h | h
  all_goals
   obtain rfl:=ba_eq s _ h;clear h;go_enter Tryz.func129,Tryz.ntmps129;go_wp2;go_ret;exact⟨rfl,rfl⟩
 ·have h:=Bool.eq_false_iff.2 h
  rw[h];unfold isFlagL at h;have h:=of_decide_eq_false h;have n0:=not_list (fun e=>h (.inl e));have n1:=not_list (fun e=>h (.inr (.inl e)));have n2:=not_list (fun e=>h (.inr (.inr (.inl e))));have n3:=not_list (fun e=>h (.inr (.inr (.inr e))));clear h;go_enter Tryz.func129,Tryz.ntmps129;go_wp2;go_ret;exact⟨rfl,rfl⟩
theorem isWordL_at (s:ByteArray) (h:0<s.size):isWordL s.data.toList=(isLow s[0] && decide (1+runL isIn (s.data.toList.drop 1)=s.size) && decide (s.size≤14)):=by
 have hl:=len_data s;have hf:=runL_full isIn (s.data.toList.drop 1);have hd:=drop_at s 0 h;rw[drop0] at hd;rw[hd] at hl;rw[List.length_cons,List.length_drop,len_data] at hl;rw[List.length_drop,len_data] at hf
 conv=>lhs;rw[hd]
 show (isLow s[0] && (s.data.toList.drop 1).all isIn && decide ((s.data.toList.drop (0+1)).length≤13))=_;rw[Nat.zero_add,List.length_drop,len_data]
 congr 1
 ·congr 1
  rw[Bool.eq_iff_iff,decide_eq_true_iff,←hf];omega
 ·rw[Bool.eq_iff_iff,decide_eq_true_iff,decide_eq_true_iff];omega
theorem runend_in1 (s:ByteArray) (h:0<s.size) (hs:s.size≤1000000) (w:World):
 Calls Tryz.prog 82 #[.string s,.int .i64 1,.func (.func 89) #[] #[]] w fun e w'=>e= .returned (.int .i64 ((1+runL isIn (s.data.toList.drop 1):Nat):Int))∧w=w':=runend_in s 1 h hs w
theorem isword_any (s:ByteArray) (w:World):Calls Tryz.prog 128 #[.string s] w fun e w'=>e= .returned (.bool (isWordL s.data.toList))∧w=w':=by
 by_cases h0:0<s.size
 ·rw[isWordL_at s h0]
  have he:=isEmpty_f s h0;have he2:¬ s.toList=[]:=by intro e;rw[e] at he;cases he
  by_cases h14:s.size≤14
  ·rw[decide_eq_true h14,Bool.and_true]
   have KL:=Lib.hid fun w=>tlow_any s[0] w
   have KR:=Lib.hid fun w=>runend_in1 s h0 (by omega) w
   generalize isLow s[0]=l at KL ⊢;generalize runL isIn (s.data.toList.drop 1)=R at KR ⊢
   cases l
   ·go_enter Tryz.func128,Tryz.ntmps128
    go_wp2_with (go_at_call 87;((with_reducible refine(KL.out _).mono ?_));rintro e w' ⟨rfl,rfl⟩);go_ret;exact⟨rfl,rfl⟩
   ·rw[Bool.true_and]
    obtain⟨q,hq⟩:∃ q:Nat,q=1+R:=⟨_,rfl⟩;rw[←hq] at KR ⊢;clear hq;by_cases hc:q=s.size
    ·rw[decide_eq_true hc]
     rw[hc] at KR;clear hc;go_enter Tryz.func128,Tryz.ntmps128;go_wp2_with (first | (go_at_call 87;((with_reducible refine(KL.out _).mono ?_));rintro e w' ⟨rfl,rfl⟩) | (go_at_call 82;((with_reducible refine(KR.out _).mono ?_));rintro e w' ⟨rfl,rfl⟩));go_ret;exact⟨rfl,rfl⟩
    ·rw[decide_eq_false hc]
     have hb:((q:Int)==(s.size:Int))=false:=by simp;omega
     have hb2:(q==s.size)=false:=by simpa using hc
     clear hc;go_enter Tryz.func128,Tryz.ntmps128;go_wp2_with (first | (go_at_call 87;((with_reducible refine(KL.out _).mono ?_));rintro e w' ⟨rfl,rfl⟩) | (go_at_call 82;((with_reducible refine(KR.out _).mono ?_));rintro e w' ⟨rfl,rfl⟩));go_ret;exact⟨rfl,rfl⟩
  ·rw[decide_eq_false h14,Bool.and_false]
   go_enter Tryz.func128,Tryz.ntmps128;go_wp2;go_ret;exact⟨rfl,rfl⟩
 ·have e:=isEmpty_t s h0
  have he:s.toList.isEmpty=true:=by rw[toList_data,e];rfl
  have he2:s.toList=[]:=by rw[toList_data,e]
  rw[e];clear e;go_enter Tryz.func128,Tryz.ntmps128;go_wp2;go_ret;exact⟨rfl,rfl⟩
theorem mayhave_any (k:Int) (s:ByteArray) (hs:s.size≤4611686018427387904) (w:World):Calls Tryz.prog 105 #[.int .i64 k,.string s] w fun e w'=>e= .returned (.bool (mayW k s.data.toList))∧w=w':=by
 unfold mayW;have K1:=Lib.hid fun w=>isword_any s w
 have K4:=Lib.hid fun w=>issign_any s w
 have K5:=Lib.hid fun w=>isflag_any s w
 have K6:=Lib.hid fun w=>name_any s hs w
 generalize isWordL s.data.toList=x1 at K1 ⊢;generalize isSignL s.data.toList=x4 at K4 ⊢;generalize isFlagL s.data.toList=x5 at K5 ⊢;generalize isName s.data.toList=x6 at K6 ⊢;by_cases h1:k=1
 ·subst h1
  rw[if_pos rfl];go_enter Tryz.func105,Tryz.ntmps105;go_wp2_with (go_at_call 128;((with_reducible refine(K1.out _).mono ?_));rintro e w' ⟨rfl,rfl⟩);go_ret;exact⟨rfl,rfl⟩
 ·rw[if_neg h1]
  have b1:(k==1)=false:=by simpa using h1
  clear h1;by_cases h4:k=4
  ·subst h4
   rw[if_pos rfl];go_enter Tryz.func105,Tryz.ntmps105;go_wp2_with (go_at_call 117;((with_reducible refine(K4.out _).mono ?_));rintro e w' ⟨rfl,rfl⟩);go_ret;exact⟨rfl,rfl⟩
  ·rw[if_neg h4]
   have b4:(k==4)=false:=by simpa using h4
   clear h4;by_cases h5:k=5
   ·subst h5
    rw[if_pos rfl];go_enter Tryz.func105,Tryz.ntmps105;go_wp2_with (go_at_call 129;((with_reducible refine(K5.out _).mono ?_));rintro e w' ⟨rfl,rfl⟩);go_ret;exact⟨rfl,rfl⟩
   ·rw[if_neg h5]
    have b5:(k==5)=false:=by simpa using h5
    clear h5;by_cases h6:k=6
    ·subst h6
     rw[if_pos rfl];go_enter Tryz.func105,Tryz.ntmps105;go_wp2_with (go_at_call 52;((with_reducible refine(K6.out _).mono ?_));rintro e w' ⟨rfl,rfl⟩);go_ret;exact⟨rfl,rfl⟩
    ·rw[if_neg h6]
     have b6:(k==6)=false:=by simpa using h6
     clear h6;go_enter Tryz.func105,Tryz.ntmps105;go_wp2;go_ret;exact⟨rfl,rfl⟩
theorem gap_at_bl (s:ByteArray) (j:Nat) (h:j<s.size) (c:isBl s[j]=true):gap false (s.data.toList.drop j)=gap false (s.data.toList.drop (j+1))+1:=by rw[drop_at s j h,gap_false,if_pos c]
theorem gap_at_hash (s:ByteArray) (j:Nat) (h:j<s.size) (c:s[j]=35):gap false (s.data.toList.drop j)=runL notNl (s.data.toList.drop j)+gap false (s.data.toList.drop (j+runL notNl (s.data.toList.drop j)))∧0<runL notNl (s.data.toList.drop j):=by
 have e:s.data.toList.drop j=35::s.data.toList.drop (j+1):=by rw[drop_at s j h,c]
 have hg:=gap_hash (s.data.toList.drop (j+1));rw[←e,List.drop_drop] at hg;refine⟨hg,?_⟩;rw[e,runL_cons,if_pos (by decide)];omega
theorem gap_at_no (s:ByteArray) (j:Nat) (h:j<s.size) (c:¬ isBl s[j]=true) (d:s[j]≠35):gap false (s.data.toList.drop j)=0:=by rw[drop_at s j h,gap_false,if_neg c,if_neg d]
theorem gap_at_end (s:ByteArray) (j:Nat) (h:¬ j<s.size):gap false (s.data.toList.drop j)=0:=by rw[drop_end s j h];rfl
theorem behind_any (s:ByteArray) (k:Nat) (hk:k≤s.size) (hs:s.size≤1000000) (w:World):
  Calls Tryz.prog 56 #[.string s,.int .i64 k] w fun e w'=>e= .returned (.int .i64 (behind s.data.toList k))∧w=w':=by
 obtain⟨N,hN⟩:∃ N,N=behind s.data.toList k:=⟨_,rfl⟩;rw[←hN];unfold behind at hN;have HN:=Lib.hid hN;clear hN;go_enter Tryz.func56,Tryz.ntmps56;go_wp2
 go_loop [1] (fun a=>∃ j:Nat,j≤s.size∧a= .int .i64 j∧N=j+gap false (s.data.toList.drop j)) (fun a=>s.size - (intOf a).toNat)
 case atStart=>exact⟨k,hk,rfl,HN.out⟩
 case round=>
  obtain⟨j,hj,rfl,hn⟩:=hrel;have HJ:=Lib.hid hn;clear hn;by_cases a:j<s.size
  ·have K:=Lib.hid fun w=>tbl_any s[j] w
   by_cases c:isBl s[j]=true
   ·have hr:=gap_at_bl s j a c
    rw[c] at K;have HX:Hid (N=(j+1)+gap false (s.data.toList.drop (j+1))):=by apply Lib.hid;rw[HJ.out,hr];omega
    clear hr c;go_wp2_with (go_at_call 81;((with_reducible refine(K.out _).mono ?_));rintro e w' ⟨rfl,rfl⟩)
    go_round
    case rel=>exact⟨j+1,by omega,by go_num,HX.out⟩
    case measure=>simp[intOf];omega
   ·by_cases d:s[j]=35
    ·obtain⟨hr,h0⟩:=gap_at_hash s j a d
     have b35:((s[j].toNat:Int)==35)=true:=byte_eq (n:=35) d (by omega);have KR:=Lib.hid fun w=>runend_nl s j hj hs w
     have hle:=runL_le notNl (s.data.toList.drop j);rw[List.length_drop,len_data] at hle;rw[Bool.eq_false_iff.2 c] at K;generalize runL notNl (s.data.toList.drop j)=r at KR hr h0 hle;obtain⟨q,hq⟩:∃ q,q=j+r:=⟨_,rfl⟩;have HX:Hid (N=q+gap false (s.data.toList.drop q)):=by apply Lib.hid;rw[HJ.out,hr,hq];omega
     rw[←hq] at KR;have q1:j<q:=by omega
     have q2:q≤s.size:=by omega
     clear hr c d hq h0 hle;go_wp2_with (first | (go_at_call 81;((with_reducible refine(K.out _).mono ?_));rintro e w' ⟨rfl,rfl⟩) | (go_at_call 82;((with_reducible refine(KR.out _).mono ?_));rintro e w' ⟨rfl,rfl⟩))
     go_round
     case rel=>exact⟨q,q2,rfl,HX.out⟩
     case measure=>simp[intOf];omega
    ·have hr:=gap_at_no s j a c d
     have b35:((s[j].toNat:Int)==35)=false:=byte_ne (n:=35) d (by omega);rw[Bool.eq_false_iff.2 c] at K;have HX:Hid (j=N):=by apply Lib.hid;rw[HJ.out,hr];omega
     clear hr c d;go_wp2_with (go_at_call 81;((with_reducible refine(K.out _).mono ?_));rintro e w' ⟨rfl,rfl⟩);go_ret;exact⟨ret_int (by rw[HX.out]),rfl⟩
  ·have HX:Hid (j=N):=by apply Lib.hid;rw[HJ.out,gap_at_end _ _ a];omega
   go_wp2;go_ret;exact⟨ret_int (by rw[HX.out]),rfl⟩
def sgD (l:Bs):Nat→Nat
 | 0=>0
 | n+1=>if isSignL (l.take (n+1)) then n+1 else sgD l n
theorem signL_sgD (l:Bs):signL l=sgD l (min 2 l.length):=by
 rcases l with _ | ⟨a,_ | ⟨b,r⟩⟩
 ·rfl
 ·have e:min 2 ([a]:Bs).length=1:=rfl
  rw[e];show (if isSignL [a] then 1 else if isSignL [a] then 1 else 0)=if isSignL [a] then 1 else 0
  split <;> rfl
 ·have e:min 2 (a::b::r:Bs).length=2:=by simp
  rw[e]
  rfl
theorem ext_data (s:ByteArray) (a n:Nat):(s.extract a (a+n)).data.toList=(s.data.toList.drop a).take n:=by rw[ba_take]
theorem signend_any (s:ByteArray) (k:Nat) (hk:k<s.size) (hs:s.size≤1000000) (w:World):
  Calls Tryz.prog 90 #[.string s,.int .i64 k] w fun e w'=>e= .returned (.int .i64 ((k+signL (s.data.toList.drop k):Nat):Int))∧w=w':=by
 obtain⟨N,hN⟩:∃ N,N=k+signL (s.data.toList.drop k):=⟨_,rfl⟩;rw[←hN];rw[signL_sgD,List.length_drop,len_data] at hN;obtain⟨m,hm⟩:∃ m,m=min 2 (s.size - k):=⟨_,rfl⟩;rw[←hm] at hN;have m1:m≤2:=by omega
 have m2:k+m≤s.size:=by omega
 have hmin:min ((k:Int)+2) (s.size:Int)=((k+m:Nat):Int):=by omega
 have HN:=Lib.hid hN;clear hN hm;go_enter Tryz.func90,Tryz.ntmps90;go_wp2
 go_loop [5] (fun a=>∃ j:Nat,j≤2∧k+j≤s.size∧a= .int .i64 ((k+j:Nat):Int)∧N=k+sgD (s.data.toList.drop k) j) (fun a=>(intOf a).toNat - k)
 case atStart=>exact⟨m,m1,m2,by go_num,HN.out⟩
 case round=>
  obtain⟨j,j2,hj,rfl,hn⟩:=hrel
  cases j with
  | zero=>
    have HX:Hid (k=N):=Lib.hid (by rw[hn];rfl);clear hn;go_wp2;go_ret;exact⟨ret_int (by rw[HX.out]),rfl⟩
  | succ j=>
    have K:=Lib.hid fun w=>issign_any (s.extract k (k+(j+1))) w
    rw[ext_data] at K;have hstep:sgD (s.data.toList.drop k) (j+1)=if isSignL ((s.data.toList.drop k).take (j+1)) then j+1 else sgD (s.data.toList.drop k) j:=rfl
    rw[hstep] at hn;clear hstep;obtain⟨q,hq⟩:∃ q,q=k+(j+1):=⟨_,rfl⟩;have q1:k<q:=by omega
    have HQ:=Lib.hid hq;rw[←hq] at K hj ⊢;generalize isSignL ((s.data.toList.drop k).take (j+1))=b at K hn
    cases b
    ·have HX:Hid (N=k+sgD (s.data.toList.drop k) j):=Lib.hid hn
     clear hn hq;go_wp2_with (go_at_call 117;((with_reducible refine(K.out _).mono ?_));rintro e w' ⟨rfl,rfl⟩)
     go_round
     case rel=>exact⟨j,by omega,by have:=HQ.out;omega,by have:=HQ.out;congr 1;omega,HX.out⟩
     case measure=>have:=HQ.out;simp[intOf];omega
    ·have HX:Hid (q=N):=Lib.hid (by rw[hn,hq];rfl)
     clear hn hq;go_wp2_with (go_at_call 117;((with_reducible refine(K.out _).mono ?_));rintro e w' ⟨rfl,rfl⟩);go_ret;exact⟨ret_int (by rw[HX.out]),rfl⟩
theorem bcell {W w1:World} (hb:Below W.heap.size W w1):(∀ b o,b<W.heap.size→w1.cell? ⟨b,o,none⟩=W.cell? ⟨b,o,none⟩)∧(∀ b o,b<W.heap.size→w1.frozen? ⟨b,o,none⟩=W.frozen? ⟨b,o,none⟩):=
 ⟨fun b o h=>hb.cell (p:=⟨b,o,none⟩) h,fun b o h=>hb.frozen (p:=⟨b,o,none⟩) h⟩
theorem size_le {w w1:World} {o:Obj} (hb:Below (w.alloc o).heap.size (w.alloc o) w1):w.heap.size+1≤w1.heap.size:=by
 have:=hb.size;simp at this;omega
theorem own_set {w:World} {B T s n:Nat} {v:Value} {xs:List Value} (h:w.ownsRow B T s v n xs) {p:Addr} (hlt:p.block<B) (u:Value):(w.setCell p u).ownsRow B T s v n xs:=by
 refine h.kept (w':=w.setCell p u) (row:=some p.block) ⟨rfl,rfl,rfl,by simp,fun k _ hk=>Below.heap_setCell w p u k (fun e=>hk (by rw[e]))⟩ ?_
 rcases hv:v.ownBlock with _ | b
 ·exact .inl rfl
 ·right
  have:=(h.lt b hv).1;intro e;injection e with e
  omega
abbrev put5 (w:World) (b:Nat) (u0 u1 u2 u3 u4:Value):World:=((((w.setCell ⟨b,0,none⟩ u0).setCell ⟨b,1,none⟩ u1).setCell ⟨b,2,none⟩ u2).setCell ⟨b,3,none⟩ u3).setCell ⟨b,4,none⟩ u4
theorem box5_below {w w1:World} {o:Obj} (hb:Below (w.alloc o).heap.size (w.alloc o) w1) (u0 u1 u2 u3 u4:Value):Below w.heap.size w (put5 w1 w.heap.size u0 u1 u2 u3 u4):=by
 have e:(w.alloc o).heap.size=w.heap.size+1:=by simp
 exact((((((((Below.refl _ _).alloc (Nat.le_refl _) o).trans (hb.mono (by omega))).setCell (Nat.le_refl _) u0).setCell (Nat.le_refl _) u1).setCell (Nat.le_refl _) u2).setCell (Nat.le_refl _) u3).setCell (Nat.le_refl _) u4)
theorem box5_own {w w1:World} {o:Obj} {T s n:Nat} {v:Value} {xs:List Value} (h:w1.ownsRow (w.alloc o).heap.size T s v n xs) (u0 u1 u2 u3 u4:Value):(put5 w1 w.heap.size u0 u1 u2 u3 u4).ownsRow w.heap.size T s v n xs:=by
 have e:(w.alloc o).heap.size=w.heap.size+1:=by simp
 have hlt:∀ j,(⟨w.heap.size,j,none⟩:Addr).block<(w.alloc o).heap.size:=fun j=>by rw[e];exact Nat.lt_succ_self _
 exact World.ownsRow.mono (own_set (own_set (own_set (own_set (own_set h (hlt 0) u0) (hlt 1) u1) (hlt 2) u2) (hlt 3) u3) (hlt 4) u4) (by omega)
theorem tclone_any (s:ByteArray) (h:s.size≤281474976710656) (w:World):Calls Tryz.prog 71 #[.string s] w fun e w'=>e= .returned (.string s)∧Below w.heap.size w w':=clone_any s h w
def resW (b:Bool) (k:Int) (W:ByteArray) (at' to':Int):Value:=if b then .tuple #[.agg #[.int .i64 k,.string W,.int .i64 0,.slice none 0 0,.int .i64 0],.int .i64 to',.int .i64 0] else .tuple #[.agg #[.int .i64 0,.string ⟨#[]⟩,.int .i64 0,.slice none 0 0,.int .i64 0],.int .i64 at',.int .i64 1]
theorem readword_any (s:ByteArray) (k f n:Nat) (kd:Int) (hf:f+n≤s.size) (hs:s.size≤1000000) (w:World):
  Calls Tryz.prog 88 #[.string s,.int .i64 k,.int .i64 kd,.int .i64 f,.int .i64 ((f+n:Nat):Int)] w fun e w'=>e= .returned (resW (mayW kd ((s.data.toList.drop f).take n)) kd (s.extract f (f+n)) k ((f+n:Nat):Int))∧Below w.heap.size w w':=by
 have hx:(s.extract f (f+n)).size≤1000000:=by
  rw[←len_data,ext_data,List.length_take,List.length_drop,len_data];omega
 have K:=Lib.hid fun w=>mayhave_any kd (s.extract f (f+n)) (by omega) w
 have KC:=Lib.hid fun w=>clone_any (s.extract f (f+n)) (by omega) w
 rw[ext_data] at K;generalize mayW kd ((s.data.toList.drop f).take n)=b at K ⊢;obtain⟨q,hq⟩:∃ q,q=f+n:=⟨_,rfl⟩;rw[←hq] at K KC hf ⊢;have q1:f≤q:=by omega
 clear hq hx
 cases b
 ·go_enter Tryz.func88,Tryz.ntmps88
  go_wp2_with (go_at_call 105;((with_reducible refine(K.out _).mono ?_));rintro e w' ⟨rfl,rfl⟩);exact bodyPost_ret (v:=resW false kd (s.extract f q) k q) (by simp[results,Tryz.results88,go_sem,resW]) rfl ⟨rfl,(Below.refl _ _).alloc (Nat.le_refl _) _⟩
 ·go_enter Tryz.func88,Tryz.ntmps88
  go_wp2_with (first | (go_at_call 105;((with_reducible refine(K.out _).mono ?_));rintro e w' ⟨rfl,rfl⟩) | (go_at_call 71;((with_reducible refine(KC.out _).mono ?_));rintro e w' ⟨rfl,hb⟩;obtain⟨hc,hfz⟩:=bcell hb;have hz:=size_le hb;have HB:=Lib.hid hb;clear hb));exact bodyPost_ret (v:=resW true kd (s.extract f q) k q) (by simp[results,Tryz.results88,go_sem,resW,hc]) rfl ⟨rfl,box5_below HB.out _ _ _ _ _⟩
theorem dig_ne45 (c:UInt8) (h:isDig c=true):¬ c=45:=by rintro rfl;revert h;decide
theorem numR_spec (l:Bs) (h:l.all isDig=true) (h0:l≠[]):specL l (numR l).1 (numR l).2:=by
 cases l with
 | nil=>exact absurd rfl h0
 | cons c r=>
   have hc:¬ c=45:=dig_ne45 c (by rw[List.all_cons,Bool.and_eq_true] at h;exact h.1);have hd:(c::r).all digB=true:=by rw[←isD_fun];exact h
   have hf:formL (c::r)=if c=48 then r.isEmpty else true:=by
    rw[form_other c r hc];unfold formD;dsimp only
    split
    ·simp
    ·exact h
   have h48n:¬ c=48→numR (c::r)=if valN (c::r)<9223372036854775808 then ((valN (c::r):Int),0) else (0,3):=fun h=>by
    unfold numR;rw[if_neg (by rintro⟨e,_⟩;injection e with e;exact h e)]
   unfold specL;by_cases h48:c=48
   ·rw[if_pos h48] at hf
    cases r with
    | nil=>
      subst h48;have hn:numR [48]=(0,0):=by decide
      rw[hf,neg_other _ _ hc,dig_other _ _ hc,hn];unfold specD;rw[if_pos (show ([]:Bs).isEmpty=true from rfl),if_pos hd];exact⟨0,rfl,by decide⟩
    | cons d r=>
      have hn:numR (c::d::r)=(0,1):=by
       unfold numR;rw[if_pos ⟨by rw[h48];rfl,by simp⟩]
      rw[hf,hn,if_neg (by simp)];exact⟨rfl,rfl⟩
   ·rw[if_neg h48] at hf
    rw[hf,if_pos rfl,neg_other c r hc,dig_other c r hc,h48n h48];unfold specD;rw[if_pos hd];refine⟨(valN (c::r):Int),rfl,?_⟩;by_cases hv:valN (c::r)<9223372036854775808
    ·rw[if_pos hv,if_pos (by omega)];exact⟨rfl,rfl⟩
    ·rw[if_neg hv,if_neg (by omega)];exact⟨rfl,rfl⟩
def tokV (t:Tok) (v:Value):Value:= .agg #[.int .i64 t.kind,.string ⟨t.word.toArray⟩,.int .i64 t.n,v,.int .i64 t.pl]
abbrev OwnP (B:Nat) (w:World) (v:Value) (ps:List Pt):Prop:=w.ownsRow B 88 2 v ps.length (cellsP ps)
def posR (k:Nat) (R:TR):Nat:=match R with | .bad q _=>k+q | .ok _ q=>k+q
def errR (R:TR):Int:=match R with | .bad _ e=>e | .ok _ _=>0
def PostR (w0:World) (k:Nat) (R:TR) (e:Ending) (w':World):Prop:=
 ∃ (t:Tok) (v:Value),e= .returned (.tuple #[tokV t v,.int .i64 (posR k R),.int .i64 (errR R)])∧OwnP w0.heap.size w' v t.parts∧Below w0.heap.size w0 w'∧∀ t' q,R= .ok t' q→t'=t
theorem ext_eq (s:ByteArray) (a n:Nat):s.extract a (a+n)=⟨((s.data.toList.drop a).take n).toArray⟩:=ba_take s a n
theorem resW_post {w w':World} {s:ByteArray} {k f n q:Nat} {kd:Int} (hb:Below w.heap.size w w') (hq:f+n=k+q):
  PostR w k (wordR kd ((s.data.toList.drop f).take n) q) (.returned (resW (mayW kd ((s.data.toList.drop f).take n)) kd (s.extract f (f+n)) k ((f+n:Nat):Int))) w':=by
 unfold wordR;by_cases h:mayW kd ((s.data.toList.drop f).take n)=true
 ·rw[if_pos h,h,ext_eq,hq]
  exact⟨⟨kd,(s.data.toList.drop f).take n,0,[],0⟩,.slice none 0 0,rfl,World.ownsRow_nil _ _ _ _,hb,fun t' q h=>by injection h with h _;exact h.symm⟩
 ·have hf:=Bool.eq_false_iff.2 h
  rw[if_neg h,hf];exact⟨⟨0,[],0,[],0⟩,.slice none 0 0,by simp[resW,tokV,posR,errR],World.ownsRow_nil _ _ _ _,hb,fun t' q h=>by cases h⟩
theorem numT_cases (l:Bs):numT l=if (numR (l.take (runL isDig l))).2=0 then .ok ⟨2,[],(numR (l.take (runL isDig l))).1,[],0⟩ (runL isDig l) else .bad 0 (numR (l.take (runL isDig l))).2:=rfl
theorem readnumber_any (s:ByteArray) (k:Nat) (hk:k<s.size) (hd:isDig s[k]=true) (hs:s.size≤4000) (w:World) (hG:Given w):
  Calls Tryz.prog 86 #[.string s,.int .i64 k] w (PostR w k (numT (s.data.toList.drop k))):=by
 have KR:=Lib.hid fun w=>runend_dig s k (by omega) (by omega) w
 have hrun:=runL_le isDig (s.data.toList.drop k);have hall:=runL_all isDig (s.data.toList.drop k);have h0:0<runL isDig (s.data.toList.drop k):=by rw[runL_at isDig s k hk,if_pos hd];omega
 rw[List.length_drop,len_data] at hrun;rw[numT_cases];generalize runL isDig (s.data.toList.drop k)=n at KR hrun hall h0 ⊢
 have hx:(s.extract k (k+n)).size≤4000:=by
  rw[←len_data,ext_data,List.length_take,List.length_drop,len_data];omega
 have hne:(s.data.toList.drop k).take n≠[]:=by
  intro e;have:=congrArg List.length e;rw[List.length_take,List.length_drop,len_data,List.length_nil] at this;omega
 have hsp:=numR_spec _ hall hne;obtain⟨n0,n1,n2⟩:=numR_facts ((s.data.toList.drop k).take n);rw[←ext_data] at hsp
 have KP:Hid (∀ w,Given w→Calls Tryz.prog 116 #[.string (s.extract k (k+n))] w fun e w'=>e= .returned (.tuple #[.int .i64 (numR (s.extract k (k+n)).data.toList).1,.int .i64 (numR (s.extract k (k+n)).data.toList).2])∧Below w.heap.size w w'):=
  Lib.hid fun w hg=>parse_anyN _ hx _ _ hsp w hg
 rw[ext_data] at KP;generalize numR ((s.data.toList.drop k).take n)=R at KP n0 n1 n2 ⊢;obtain⟨v,x⟩:=R;dsimp only at KP n0 n1 n2 ⊢;have HG:=Lib.hid hG;obtain⟨q,hq⟩:∃ q,q=k+n:=⟨_,rfl⟩;have HQ:=Lib.hid hq;rw[←hq] at KR KP;have q1:k≤q:=by omega
 have q2:q≤s.size:=by omega
 clear hsp hne hx hall hd hG hq hrun h0;by_cases hx0:x=0
 ·subst hx0
  rw[if_pos rfl];go_enter Tryz.func86,Tryz.ntmps86;go_wp2_with (first | (go_at_call 82;((with_reducible refine(KR.out _).mono ?_));rintro e w' ⟨rfl,rfl⟩) | (go_at_call 116;((with_reducible refine(KP.out _ (HG.out.below ((Below.refl _ _).alloc (Nat.le_refl _) _))).mono ?_));rintro e w' ⟨rfl,hb⟩;obtain⟨hc,hfz⟩:=bcell hb;have hz:=size_le hb;have HB:=Lib.hid hb;clear hb));refine bodyPost_ret (v:= .tuple #[tokV ⟨2,[],v,[],0⟩ (.slice none 0 0),.int .i64 q,.int .i64 0]) (by simp[results,Tryz.results86,go_sem,hc,tokV]) rfl ⟨_,_,?_,World.ownsRow_nil _ _ _ _,box5_below HB.out _ _ _ _ _,fun t' q h=>by injection h with h _;exact h.symm⟩;rw[HQ.out];rfl
 ·rw[if_neg hx0]
  have hb0:(x != 0)=true:=by simpa using hx0
  clear hx0;go_enter Tryz.func86,Tryz.ntmps86;go_wp2_with (first | (go_at_call 82;((with_reducible refine(KR.out _).mono ?_));rintro e w' ⟨rfl,rfl⟩) | (go_at_call 116;((with_reducible refine(KP.out _ (HG.out.below ((Below.refl _ _).alloc (Nat.le_refl _) _))).mono ?_));rintro e w' ⟨rfl,hb⟩;obtain⟨hc,hfz⟩:=bcell hb;have hz:=size_le hb;have HB:=Lib.hid hb;clear hb));exact bodyPost_ret (v:= .tuple #[tokV ⟨0,[],0,[],0⟩ (.slice none 0 0),.int .i64 k,.int .i64 x]) (by simp[results,Tryz.results86,go_sem,hc,tokV]) rfl ⟨_,_,rfl,World.ownsRow_nil _ _ _ _,box5_below HB.out _ _ _ _ _,fun t' q h=>by cases h⟩
theorem textR_cases (l:Bs):textR l=match parse l with | (none,q)=> .bad q 1 | (some ps,q)=> .ok ⟨3,[],0,ps,0⟩ q:=rfl
theorem ext_tail (s:ByteArray) (k:Nat):(s.extract k s.size).data.toList=s.data.toList.drop k:=by
 by_cases h:k≤s.size
 ·have:=ext_data s k (s.size - k)
  rw[show k+(s.size - k)=s.size by omega] at this;rw[this,List.take_of_length_le (by rw[List.length_drop,len_data];omega)]
 ·rw[drop_end s k (by omega)]
  apply List.eq_nil_of_length_eq_zero;rw[len_data,ByteArray.size_extract];omega
def textA (R:Option (List Pt) × Nat):TR:=match R with | (none,q)=> .bad q 1 | (some ps,q)=> .ok ⟨3,[],0,ps,0⟩ q
theorem readtext_any (s:ByteArray) (k:Nat) (hk:k<s.size) (hs:s.size≤4000) (w:World):
  Calls Tryz.prog 84 #[.string s,.int .i64 k] w (PostR w k (textR (s.data.toList.drop k))):=by
 have KP:=Lib.hid fun w=>parse_any (s.extract k s.size) (by rw[ByteArray.size_extract];omega) w
 rw[ext_tail] at KP;show Calls Tryz.prog 84 #[.string s,.int .i64 k] w (PostR w k (textA (parse (s.data.toList.drop k))));have hbd:=(parse_bd (s.data.toList.drop k)).1;rw[List.length_drop,len_data] at hbd;generalize parse (s.data.toList.drop k)=R at KP hbd ⊢;obtain⟨o,q⟩:=R;dsimp only at hbd
 have KP:Hid (∀ w,Calls Tryz.prog 115 #[.string (s.extract k s.size)] w fun e w'=>∃ A c,e= .returned (.tuple #[.slice A (outOf o).length c,.int .i64 q,.int .i64 (errOf o)])∧OwnP w.heap.size w' (.slice A (outOf o).length c) (outOf o)∧Below w.heap.size w w'):=Lib.hid fun w=>(KP.out w).mono fun e w' ⟨v,he,ho,hb⟩=>by
  obtain⟨A,c,rfl,_⟩:=rd_of_own (ps:=outOf o) ho;exact⟨A,c,he,ho,hb⟩
 go_enter Tryz.func84,Tryz.ntmps84;go_wp2_with (go_at_call 115;((with_reducible refine(KP.out _).mono ?_));rintro e w' ⟨A,c,rfl,ho,hb⟩;obtain⟨hc,hfz⟩:=bcell hb;have hz:=size_le hb;have HB:=Lib.hid hb;have HO:=Lib.hid ho;clear hb ho);refine bodyPost_ret (v:= .tuple #[tokV ⟨3,[],0,outOf o,0⟩ (.slice A (outOf o).length c),.int .i64 ((k:Int)+q),.int .i64 (errOf o)]) (by simp[results,Tryz.results84,go_sem,hc,tokV]) rfl ⟨⟨3,[],0,outOf o,0⟩,.slice A (outOf o).length c,?_,box5_own HO.out _ _ _ _ _,box5_below HB.out _ _ _ _ _,?_⟩
 ·cases o <;> rfl
 ·intro t' q' h
  cases o with
  | none=>cases h
  | some ps=>injection h with h _;exact h.symm
end Go.Proofs.YtdobinjbejagcaaGreatDoor
