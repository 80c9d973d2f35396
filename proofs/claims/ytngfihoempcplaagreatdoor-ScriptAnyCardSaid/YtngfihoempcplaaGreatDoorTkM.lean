import Derived.Test.YtngfihoempcplaaGreatDoorPlain3
import Derived.Test.YtngfihoempcplaaGreatDoorDigits
import Derived.Test.YtngfihoempcplaaGreatDoorCf
import Derived.Test.YtngfihoempcplaaGreatDoorRPrint2
import Derived.Deep.Onto
import Derived.Test.YtngfihoempcplaaGreatDoorNBoth
import Derived.Test.YtngfihoempcplaaGreatDoorQRead
namespace Go.Proofs.YtngfihoempcplaaGreatDoor
open Go Go.RowKit
set_option maxRecDepth 100000
set_option maxHeartbeats 4000000
structure Tok where
 kind:Int
 word:Bs
 n:Int
 parts:List Pt
 pl:Int
def runL (p:UInt8→Bool):Bs→Nat
 | []=>0
 | c::r=>if p c then runL p r+1 else 0
theorem z1t (p:UInt8→Bool) (c:UInt8) (r:Bs):runL p (c::r)=if p c then runL p r+1 else 0:=rfl
theorem z1w (p:UInt8→Bool):∀ l:Bs,runL p l≤l.length
 | []=>Nat.le_refl _
 | c::r=>by
   have:=z1w p r;rw[z1t];split
   ·simp;omega
   ·simp
theorem z6h (p:UInt8→Bool):∀ l:Bs,(l.take (runL p l)).all p=true
 | []=>rfl
 | c::r=>by
   have:=z6h p r;rw[z1t];split
   ·rename_i h;rw[List.take_succ_cons,List.all_cons,h,this];rfl
   ·rfl
theorem y1e (p:UInt8→Bool):∀ l:Bs,(runL p l=l.length)=(l.all p=true)
 | []=>by simp[runL]
 | c::r=>by
   have ih:=y1e p r;rw[z1t,List.all_cons];by_cases h:p c=true
   ·rw[if_pos h,h,List.length_cons,Bool.true_and,←ih]
    exact propext ⟨fun e=>by omega,fun e=>by omega⟩
   ·rw[if_neg h,Bool.eq_false_iff.2 h,List.length_cons,Bool.false_and]
    exact propext ⟨fun e=>by omega,fun e=>by cases e⟩
def isBl (c:UInt8):Bool:=decide ((c.toNat:Int)=32∨(c.toNat:Int)=9∨(c.toNat:Int)=10)
def notNl (c:UInt8):Bool:=decide (¬ (c.toNat:Int)=10)
def gap:Bool→Bs→Nat
 | _,[]=>0
 | true,c::r=>gap (notNl c) r+1
 | false,c::r=>if isBl c then gap false r+1 else if c=35 then gap true r+1 else 0
theorem x3c (m:Bool):gap m []=0:=by cases m <;> rfl
theorem y4h (c:UInt8) (r:Bs):gap true (c::r)=gap (notNl c) r+1:=rfl
theorem z3r (c:UInt8) (r:Bs):gap false (c::r)=if isBl c then gap false r+1 else if c=35 then gap true r+1 else 0:=rfl
theorem y4g:∀ (m:Bool) (l:Bs),gap m l≤l.length
 | m,[]=>by rw[x3c];exact Nat.le_refl _
 | true,c::r=>by rw[y4h,List.length_cons];have:=y4g (notNl c) r;omega
 | false,c::r=>by
   rw[z3r,List.length_cons];have h1:=y4g false r;have h2:=y4g true r
   split
   ·omega
   ·split <;> omega
theorem x1p (c:UInt8) (h:notNl c=false):isBl c=true:=by
 unfold notNl at h;unfold isBl;simp only[decide_not,Bool.not_eq_false',decide_eq_true_eq] at h;simp[h]
theorem z81:∀ r:Bs,gap true r=runL notNl r+gap false (r.drop (runL notNl r))
 | []=>rfl
 | c::r=>by
   rw[y4h,z1t];by_cases h:notNl c=true
   ·rw[if_pos h,h,z81 r,List.drop_succ_cons];omega
   ·have h:=Bool.eq_false_iff.2 h
    rw[h,if_neg (by decide),List.drop_zero,z3r,if_pos (x1p c h)];omega
theorem x09 (r:Bs):gap false (35::r)=(runL notNl (35::r))+gap false ((35::r).drop (runL notNl (35::r))):=by
 have e:runL notNl (35::r)=runL notNl r+1:=by rw[z1t,if_pos (by decide)]
 rw[z3r,if_neg (by decide),if_pos rfl,e,List.drop_succ_cons,z81];omega
def isWordL (w:Bs):Bool:=match w with
 | []=>false
 | c::r=>isLow c && r.all isIn && decide (r.length≤13)
def isFlagL (w:Bs):Bool:=decide (w=[105]∨w=[101,120]∨w=[103,108]∨w=[114,101])
def sgns:List Bs:=[[60,61],[62,61],[61,61],[33,61],[38,38],[124,124],[123],[125],[40],[41],[43],[45],[42],[47],[37],[60],[62],[33]]
def isSignL (w:Bs):Bool:=sgns.contains w
def signL (l:Bs):Nat:=if isSignL (l.take 2) then (l.take 2).length else if isSignL (l.take 1) then 1 else 0
def mayW (k:Int) (w:Bs):Bool:=if k=1 then isWordL w else if k=4 then isSignL w else if k=5 then isFlagL w else if k=6 then isName w else false
def okT (t:Tok):Bool:=
 if t.kind=2 then t.word.isEmpty && decide (0≤t.n) && t.parts.isEmpty
 else if t.kind=3 then t.word.isEmpty && decide (t.n=0) && may false t.parts
 else mayW t.kind t.word && decide (t.n=0) && t.parts.isEmpty
def textT (t:Tok):Bs:=
 if t.kind=2 then Lib.itoa t.n else if t.kind=3 then print t.parts else if t.kind=5 then 45::t.word else if t.kind=6 then 36::t.word else t.word
def numR (l:Bs):Int × Int:=if l.head?=some 48∧¬ l.length=1 then (0,1) else if valN l<9223372036854775808 then ((valN l:Int),0) else (0,3)
inductive TR where
 | bad (q:Nat) (e:Int) | ok (t:Tok) (q:Nat)
def wordR (k:Int) (w:Bs) (q:Nat):TR:=if mayW k w then .ok ⟨k,w,0,[],0⟩ q else .bad 0 1
def numT (l:Bs):TR:=if (numR (l.take (runL isDig l))).2=0 then .ok ⟨2,[],(numR (l.take (runL isDig l))).1,[],0⟩ (runL isDig l) else .bad 0 (numR (l.take (runL isDig l))).2
def textR (l:Bs):TR:=match parse l with
 | (none,q)=> .bad q 1
 | (some ps,q)=> .ok ⟨3,[],0,ps,0⟩ q
def lowHead (l:Bs):Bool:=match l with
 | []=>false
 | c::_=>isLow c
def tokR (l:Bs):TR:=match l with
 | []=> .bad 0 1
 | c::r=>
   if c=34 then textR l
   else if isDig c then numT l
   else if isLow c then wordR 1 (l.take (runL isIn l)) (runL isIn l)
   else if c=36 then wordR 6 (r.take (runL isIn r)) (runL isIn r+1)
   else if c=45∧lowHead r=true then wordR 5 (r.take (runL isLow r)) (runL isLow r+1)
   else wordR 4 (l.take (signL l)) (signL l)
def behind (s:Bs) (k:Nat):Nat:=k+gap false (s.drop k)
theorem z5i (s:Bs) (k:Nat):k≤behind s k:=by unfold behind;omega
theorem z7v (s:Bs) (k:Nat) (h:k≤s.length):behind s k≤s.length:=by
 have:=y4g false (s.drop k);rw[List.length_drop] at this;unfold behind;omega
def withPl (t:Tok) (k:Int):Tok:=⟨t.kind,t.word,t.n,t.parts,k⟩
def goT (s:Bs) (k:Nat) (acc:List Tok):Option (List Tok) × Nat × Int:=
 if k<s.length then (match tokR (s.drop k) with
  | .bad q e=>(none,k+q,e)
  | .ok t q=>if 0<q then goT s (behind s (k+q)) (acc++[withPl t k]) else (none,0,1))
 else (some acc,0,0)
termination_by s.length - k
decreasing_by
 have:=z5i s (k+q);omega
def scan (s:Bs):Option (List Tok) × Nat × Int:=if 2000<s.length then (none,2000,2) else goT s (behind s 0) []
theorem z83 {w:Bs} (h:isSignL w=true):w∈sgns:=by unfold isSignL at h;exact List.contains_iff_mem.1 h
theorem y0o {w:Bs} (h:isSignL w=true):0<w.length∧w.length≤2:=by
 have h:=z83 h;unfold sgns at h;simp only[List.mem_cons,List.not_mem_nil,or_false] at h
 rcases h with h | h | h | h | h | h | h | h | h | h | h | h | h | h | h | h | h | h <;> (subst h;decide)
theorem y0t:isSignL []=false:=by decide
theorem x06 (l:Bs):(l.take 2).length≤l.length:=by rw[List.length_take];omega
theorem z9q (l:Bs):signL l≤l.length:=by
 unfold signL
 split
 ·exact x06 l
 ·split
  ·rename_i h
   have:=(y0o h).1;rw[List.length_take] at this;omega
  ·exact Nat.zero_le _
theorem y8f {l:Bs} (h:isSignL (l.take (signL l))=true):0<signL l:=by
 rcases Nat.eq_zero_or_pos (signL l) with e | e
 ·rw[e,List.take_zero,y0t] at h;cases h
 ·exact e
theorem x2z (c:UInt8) (h:isLow c=true):isIn c=true:=by unfold isIn;rw[h];rfl
theorem z4a (l:Bs):0≤(numR l).1∧(numR l).1≤9223372036854775807∧((numR l).2=0∨(numR l).2=1∨(numR l).2=3):=by
 unfold numR
 split
 ·exact⟨by decide,by decide,.inr (.inl rfl)⟩
 ·split
  ·rename_i h
   exact⟨Int.natCast_nonneg _,by dsimp only;omega,.inl rfl⟩
  ·exact⟨by decide,by decide,.inr (.inr rfl)⟩
theorem z6w {k:Int} {w:Bs} {q q':Nat} {t:Tok} (h:wordR k w q= .ok t q'):q'=q∧t=⟨k,w,0,[],0⟩∧mayW k w=true:=by
 unfold wordR at h
 split at h
 ·rename_i hm
  injection h with h1 h2
  exact⟨h2.symm,h1.symm,hm⟩
 ·cases h
theorem y8j {k:Int} {w:Bs} {q q':Nat} {e:Int} (h:wordR k w q= .bad q' e):q'=0∧e=1:=by
 unfold wordR at h
 split at h
 ·cases h
 ·injection h with h1 h2;exact⟨h1.symm,h2.symm⟩
theorem z6u {k:Int} {w:Bs} (h2:k≠2) (h3:k≠3) (h:mayW k w=true):okT ⟨k,w,0,[],0⟩=true:=by
 unfold okT;dsimp only;rw[if_neg h2,if_neg h3,h];rfl
theorem z7k {l:Bs} {t:Tok} {q:Nat} (h:tokR l= .ok t q):0<q∧q≤l.length∧okT t=true∧t.pl=0∧t.n≤9223372036854775807∧t.word.length≤l.length∧(t.parts=[]∨∃ q',parse l=(some t.parts,q')):=by
 cases l with
 | nil=>cases h
 | cons c r=>
   unfold tokR at h;dsimp only at h
   split at h
   ·unfold textR at h
    split at h
    ·cases h
    ·rename_i ps q' hp
     injection h with h1 h2
     subst h1 h2;have hb:=z6l (c::r);rw[hp] at hb;have hm:=y9j (c::r) ps (by rw[hp]);refine⟨(hb.2 rfl).1,hb.1,?_,rfl,by dsimp only;omega,by simp,.inr ⟨_,hp⟩⟩;show okT ⟨3,[],0,ps,0⟩=true;unfold okT;simp[hm]
   ·split at h
    ·rename_i hd
     unfold numT at h
     split at h
     ·injection h with h1 h2
      subst h1 h2;obtain⟨n0,n1,_⟩:=z4a ((c::r).take (runL isDig (c::r)));refine⟨by rw[z1t,if_pos hd];omega,z1w _ _,?_,rfl,n1,by simp,.inl rfl⟩;unfold okT;simp[n0]
     ·cases h
    ·split at h
     ·rename_i hl
      obtain⟨rfl,rfl,hm⟩:=z6w h;exact⟨by rw[z1t,if_pos (x2z _ hl)];omega,z1w _ _,z6u (by decide) (by decide) hm,rfl,by dsimp only;omega,by dsimp only;rw[List.length_take];omega,.inl rfl⟩
     ·split at h
      ·obtain⟨rfl,rfl,hm⟩:=z6w h
       have:=z1w isIn r;exact⟨by omega,by rw[List.length_cons];omega,z6u (by decide) (by decide) hm,rfl,by dsimp only;omega,by dsimp only;rw[List.length_take,List.length_cons];omega,.inl rfl⟩
      ·split at h
       ·obtain⟨rfl,rfl,hm⟩:=z6w h
        have:=z1w isLow r;exact⟨by omega,by rw[List.length_cons];omega,z6u (by decide) (by decide) hm,rfl,by dsimp only;omega,by dsimp only;rw[List.length_take,List.length_cons];omega,.inl rfl⟩
       ·obtain⟨rfl,rfl,hm⟩:=z6w h
        have hs:isSignL ((c::r).take (signL (c::r)))=true:=by unfold mayW at hm;simpa using hm
        exact⟨y8f hs,z9q _,z6u (by decide) (by decide) hm,rfl,by dsimp only;omega,by dsimp only;rw[List.length_take];omega,.inl rfl⟩
theorem z94 {l:Bs} {e:Int} {q:Nat} (h:tokR l= .bad q e):q≤l.length∧(e=1∨e=3):=by
 cases l with
 | nil=>injection h with h1 h2;exact⟨by omega,.inl h2.symm⟩
 | cons c r=>
   unfold tokR at h;dsimp only at h
   have hw:∀ {k:Int} {w:Bs} {x:Nat},wordR k w x= .bad q e→q≤(c::r).length∧(e=1∨e=3):=by
    intro k w x h;obtain⟨rfl,rfl⟩:=y8j h;exact⟨Nat.zero_le _,.inl rfl⟩
   split at h
   ·unfold textR at h
    split at h
    ·rename_i q' hp
     injection h with h1 h2
     subst h1 h2;have hb:=z6l (c::r);rw[hp] at hb;exact⟨hb.1,.inl rfl⟩
    ·cases h
   ·split at h
    ·unfold numT at h
     split at h
     ·cases h
     ·rename_i h0
      injection h with h1 h2
      subst h1 h2;obtain⟨_,_,n2⟩:=z4a ((c::r).take (runL isDig (c::r)));refine⟨Nat.zero_le _,?_⟩
      rcases n2 with n2 | n2 | n2
      ·exact absurd n2 h0
      ·exact .inl n2
      ·exact .inr n2
    ·split at h
     ·exact hw h
     ·split at h
      ·exact hw h
      ·split at h
       ·exact hw h
       ·exact hw h
theorem z54 {s:Bs} {k:Nat} (acc:List Tok) (h:¬ k<s.length):goT s k acc=(some acc,0,0):=by rw[goT,if_neg h]
theorem z9v {s:Bs} {k q:Nat} {e:Int} (acc:List Tok) (h:k<s.length) (h1:tokR (s.drop k)= .bad q e):goT s k acc=(none,k+q,e):=by rw[goT,if_pos h,h1]
theorem z2i {s:Bs} {k q:Nat} {t:Tok} (acc:List Tok) (h:k<s.length) (h1:tokR (s.drop k)= .ok t q):goT s k acc=goT s (behind s (k+q)) (acc++[withPl t k]):=by
 rw[goT,if_pos h,h1];exact if_pos (z7k h1).1
theorem y8o {s:Bs} (P:Nat→List Tok→Prop) (h1:∀ k acc,¬ k<s.length→P k acc) (h2:∀ k acc q e,k<s.length→tokR (s.drop k)= .bad q e→P k acc)
  (h3:∀ k acc t q,k<s.length→tokR (s.drop k)= .ok t q→0<q→k+q≤s.length→behind s (k+q)≤s.length→P (behind s (k+q)) (acc++[withPl t k])→P k acc):∀ (n k:Nat) (acc:List Tok),s.length - k<n→P k acc
 | 0,k,acc,h=>by omega
 | n+1,k,acc,h=>by
   by_cases a:k<s.length
   ·rcases ht:tokR (s.drop k) with ⟨q,e⟩ | ⟨t,q⟩
    ·exact h2 k acc q e a ht
    ·obtain⟨q0,q1,_⟩:=z7k ht
     rw[List.length_drop] at q1;have hb:=z5i s (k+q);exact h3 k acc t q a ht q0 (by omega) (z7v s _ (by omega)) (y8o P h1 h2 h3 n _ _ (by omega))
   ·exact h1 k acc a
theorem y9z {s:Bs} (P:Nat→List Tok→Prop) (h1:∀ k acc,¬ k<s.length→P k acc) (h2:∀ k acc q e,k<s.length→tokR (s.drop k)= .bad q e→P k acc)
  (h3:∀ k acc t q,k<s.length→tokR (s.drop k)= .ok t q→0<q→k+q≤s.length→behind s (k+q)≤s.length→P (behind s (k+q)) (acc++[withPl t k])→P k acc) (k:Nat) (acc:List Tok):P k acc:=
 y8o P h1 h2 h3 _ k acc (Nat.lt_succ_self _)
theorem y8r (s:Bs) (k:Nat) (acc:List Tok):(∃ q e,goT s k acc=(none,q,e)∧(e=1∨e=3)∧q≤s.length)∨∃ out,goT s k acc=(some out,0,0):=by
 refine y9z (s:=s) (P:=fun k acc=>(∃ q e,goT s k acc=(none,q,e)∧(e=1∨e=3)∧q≤s.length)∨∃ out,goT s k acc=(some out,0,0)) ?_ ?_ ?_ k acc
 ·intro k acc h
  exact .inr ⟨acc,z54 acc h⟩
 ·intro k acc q e h h1
  obtain⟨a,b⟩:=z94 h1;rw[List.length_drop] at a;exact .inl ⟨k+q,e,z9v acc h h1,b,by omega⟩
 ·intro k acc t q h h1 _ _ _ ih
  rw[z2i acc h h1];exact ih
structure Read1 (N:Nat) (t:Tok):Prop where
 ok:okT t=true
 n:t.n≤9223372036854775807
 word:t.word.length≤N
 parts:t.parts=[]∨∃ l q,parse l=(some t.parts,q)∧l.length≤N
theorem x4u (s:Bs) (k:Nat) (acc:List Tok):∀ out,goT s k acc=(some out,0,0)→(∀ t∈acc,Read1 s.length t)→(∀ t∈out,Read1 s.length t)∧out.length≤acc.length+(s.length - k):=by
 refine y9z (s:=s) (P:=fun k acc=>∀ out,goT s k acc=(some out,0,0)→(∀ t∈acc,Read1 s.length t)→(∀ t∈out,Read1 s.length t)∧out.length≤acc.length+(s.length - k)) ?_ ?_ ?_ k acc
 ·intro k acc h out ho ha
  rw[z54 acc h] at ho;injection ho with ho _
  injection ho with ho
  subst ho;exact⟨ha,by omega⟩
 ·intro k acc q e h h1 out ho _
  rw[z9v acc h h1] at ho;cases ho
 ·intro k acc t q h h1 q0 q1 _ ih out ho ha
  rw[z2i acc h h1] at ho;obtain⟨_,_,o1,_,o3,o4,o5⟩:=z7k h1;rw[List.length_drop] at o4;have hb:=z5i s (k+q)
  obtain⟨i1,i2⟩:=ih out ho (fun x hx=>by
   rcases List.mem_append.1 hx with hx | hx
   ·exact ha x hx
   ·rw[List.mem_singleton] at hx
    subst hx;refine⟨o1,o3,by show t.word.length≤_;omega,?_⟩
    rcases o5 with o5 | ⟨q',o5⟩
    ·exact .inl o5
    ·exact .inr ⟨_,q',o5,by rw[List.length_drop];omega⟩)
  refine⟨i1,?_⟩;rw[List.length_append] at i2;simp at i2;omega
theorem y5w (s:Bs):(∃ q e,scan s=(none,q,e)∧(e=1∨e=2∨e=3)∧(s.length≤2000→e≠2))∨(∃ out,scan s=(some out,0,0)∧(∀ t∈out,Read1 s.length t)∧out.length≤s.length∧s.length≤2000):=by
 unfold scan;by_cases h:2000<s.length
 ·rw[if_pos h];exact .inl ⟨_,_,rfl,.inr (.inl rfl),fun h=>by omega⟩
 ·rw[if_neg h]
  rcases y8r s (behind s 0) [] with ⟨q,e,h1,h2,_⟩ | ⟨out,h1⟩
  ·exact .inl ⟨q,e,h1,by omega,fun _=>by omega⟩
  ·obtain⟨a,b⟩:=x4u s _ _ out h1 (by simp)
   simp at b;exact .inr ⟨out,h1,a,by omega,by omega⟩
theorem z2v (c:UInt8) (w:World):Cz 48 #[.int .u8 c.toNat] w fun e w'=>e= .returned (.bool (isDig c))∧w=w':=by
 obtain⟨n,hn⟩:∃ n:Int,n=c.toNat:=⟨_,rfl⟩;have e:isDig c=decide (48≤n∧n≤57):=by rw[hn];rfl
 rw[e,←hn];clear e hn;by_cases h1:48≤n <;> by_cases h2:n≤57
 all_goals
  go_enter Tryz.func48,Tryz.ntmps48;go_wp2;go_ret;exact⟨z0c (by simp[h1,h2]),rfl⟩
theorem z2d (c:UInt8) (w:World):Cz 50 #[.int .u8 c.toNat] w fun e w'=>e= .returned (.bool (isLow c))∧w=w':=by
 obtain⟨n,hn⟩:∃ n:Int,n=c.toNat:=⟨_,rfl⟩;have e:isLow c=decide (97≤n∧n≤122):=by rw[hn];rfl
 rw[e,←hn];clear e hn;by_cases h1:97≤n <;> by_cases h2:n≤122
 all_goals
  go_enter Tryz.func50,Tryz.ntmps50;go_wp2;go_ret;exact⟨z0c (by simp[h1,h2]),rfl⟩
theorem x4r (c:UInt8) (w:World):Cz 52 #[.int .u8 c.toNat] w fun e w'=>e= .returned (.bool (isIn c))∧w=w':=by
 have KD:=fun w=>z2v c w
 have KL:=fun w=>z2d c w
 have e:isIn c=(isLow c || isDig c || decide ((c.toNat:Int)=95)):=rfl;rw[e];clear e;generalize isDig c=d at KD ⊢;generalize isLow c=l at KL ⊢;have HD:=zz KD;have HL:=zz KL;clear KD KL;obtain⟨n,hn⟩:∃ n:Int,n=c.toNat:=⟨_,rfl⟩;rw[←hn] at HD HL ⊢;clear hn;by_cases h:n=95
 ·subst h
  cases d <;> cases l
  all_goals
   go_enter Tryz.func52,Tryz.ntmps52;go_wp2_with (first | (go_at_call 50;((with_reducible refine(HL.out _).mono ?_));rintro e w' ⟨rfl,rfl⟩) | (go_at_call 48;((with_reducible refine(HD.out _).mono ?_));rintro e w' ⟨rfl,rfl⟩));go_ret;exact⟨rfl,rfl⟩
 ·have hb:(n==95)=false:=by simpa using h
  have hd:decide (n=95)=false:=by simpa using h
  cases d <;> cases l
  all_goals
   go_enter Tryz.func52,Tryz.ntmps52;go_wp2_with (first | (go_at_call 50;((with_reducible refine(HL.out _).mono ?_));rintro e w' ⟨rfl,rfl⟩) | (go_at_call 48;((with_reducible refine(HD.out _).mono ?_));rintro e w' ⟨rfl,rfl⟩));go_ret;exact⟨z0c (by simp[hd]),rfl⟩
theorem x3e (c:UInt8) (w:World):Cz 44 #[.int .u8 c.toNat] w fun e w'=>e= .returned (.bool (isBl c))∧w=w':=by
 obtain⟨n,hn⟩:∃ n:Int,n=c.toNat:=⟨_,rfl⟩;have e:isBl c=decide (n=32∨n=9∨n=10):=by rw[hn];rfl
 rw[e,←hn];clear e hn;by_cases h1:n=32
 ·subst h1
  go_enter Tryz.func44,Tryz.ntmps44;go_wp2;go_ret;exact⟨rfl,rfl⟩
 ·have b1:(n==32)=false:=by simpa using h1
  by_cases h2:n=9
  ·subst h2
   go_enter Tryz.func44,Tryz.ntmps44;go_wp2;go_ret;exact⟨rfl,rfl⟩
  ·have b2:(n==9)=false:=by simpa using h2
   by_cases h3:n=10
   ·subst h3
    go_enter Tryz.func44,Tryz.ntmps44;go_wp2;go_ret;exact⟨rfl,rfl⟩
   ·have b3:(n==10)=false:=by simpa using h3
    have hd:decide (n=32∨n=9∨n=10)=false:=by simp[h1,h2,h3]
    rw[hd];clear h1 h2 h3 hd;go_enter Tryz.func44,Tryz.ntmps44;go_wp2;go_ret;exact⟨rfl,rfl⟩
theorem x4e (c:UInt8) (w:World):Cz 46 #[.int .u8 c.toNat] w fun e w'=>e= .returned (.bool (notNl c))∧w=w':=by
 obtain⟨n,hn⟩:∃ n:Int,n=c.toNat:=⟨_,rfl⟩;have e:notNl c=decide (¬ n=10):=by rw[hn];rfl
 rw[e,←hn];clear e hn;by_cases h1:n=10
 ·subst h1
  go_enter Tryz.func46,Tryz.ntmps46;go_wp2;go_ret;exact⟨rfl,rfl⟩
 ·have b1:(n != 10)=true:=by simpa using h1
  have hd:decide (¬ n=10)=true:=by simpa using h1
  rw[hd];clear h1 hd;go_enter Tryz.func46,Tryz.ntmps46;go_wp2;go_ret;exact⟨rfl,rfl⟩
theorem z2w (p:UInt8→Bool) (s:BA) (k:Nat) (hk:k<s.size):runL p (s.data.toList.drop k)=if p s[k] then runL p (s.data.toList.drop (k+1))+1 else 0:=by rw[z0h s k hk,z1t]
theorem z2f (p:UInt8→Bool) (s:BA) (k:Nat) (hk:¬ k<s.size):runL p (s.data.toList.drop k)=0:=by rw[z07 s k hk];rfl
theorem z60 (s:BA) (k:Nat) (hk:k≤s.size) (hs:s.size≤1000000) (w:World):
  Cz 45 #[s,k,.func (.func 52) #[] #[]] w fun e w'=>e= .returned (.int .i64 ((k+runL isIn (s.data.toList.drop k):Nat):Int))∧w=w':=by
 obtain⟨N,hN⟩:∃ N,N=k+runL isIn (s.data.toList.drop k):=⟨_,rfl⟩;rw[←hN];have HN:=zz hN;clear hN;go_enter Tryz.func45,Tryz.ntmps45;go_wp2
 go_loop [1] (fun a=>∃ j:Nat,j≤s.size∧a= .int .i64 j∧N=j+runL isIn (s.data.toList.drop j)) (fun a=>s.size - (intOf a).toNat)
 case atStart=>exact⟨k,hk,rfl,HN.out⟩
 case round=>
  obtain⟨j,hj,rfl,hn⟩:=hrel;have HJ:=zz hn;clear hn;by_cases a:j<s.size
  ·have K:=zz fun w=>x4r s[j] w
   have hr:=z2w isIn s j a;by_cases c:isIn s[j]=true
   ·rw[c] at K
    have HX:Hid (N=(j+1)+runL isIn (s.data.toList.drop (j+1))):=by apply Lib.hid;rw[HJ.out,hr,if_pos c];omega
    clear hr c;go_wp2_with (go_at_call 52;((with_reducible refine(K.out _).mono ?_));rintro e w' ⟨rfl,rfl⟩)
    go_round
    case rel=>exact⟨j+1,by omega,by go_num,HX.out⟩
    case measure=>simp[intOf];omega
   ·rw[Bool.eq_false_iff.2 c] at K
    have HX:Hid (j=N):=by apply Lib.hid;rw[HJ.out,hr,if_neg c];omega
    clear hr c;go_wp2_with (go_at_call 52;((with_reducible refine(K.out _).mono ?_));rintro e w' ⟨rfl,rfl⟩);go_ret;exact⟨z0m (by rw[HX.out]),rfl⟩
  ·have HX:Hid (j=N):=by apply Lib.hid;rw[HJ.out,z2f _ _ _ a];omega
   go_wp2;go_ret;exact⟨z0m (by rw[HX.out]),rfl⟩
theorem y62 (s:BA) (k:Nat) (hk:k≤s.size) (hs:s.size≤1000000) (w:World):
  Cz 45 #[s,k,.func (.func 50) #[] #[]] w fun e w'=>e= .returned (.int .i64 ((k+runL isLow (s.data.toList.drop k):Nat):Int))∧w=w':=by
 obtain⟨N,hN⟩:∃ N,N=k+runL isLow (s.data.toList.drop k):=⟨_,rfl⟩;rw[←hN];have HN:=zz hN;clear hN;go_enter Tryz.func45,Tryz.ntmps45;go_wp2
 go_loop [1] (fun a=>∃ j:Nat,j≤s.size∧a= .int .i64 j∧N=j+runL isLow (s.data.toList.drop j)) (fun a=>s.size - (intOf a).toNat)
 case atStart=>exact⟨k,hk,rfl,HN.out⟩
 case round=>
  obtain⟨j,hj,rfl,hn⟩:=hrel;have HJ:=zz hn;clear hn;by_cases a:j<s.size
  ·have K:=zz fun w=>z2d s[j] w
   have hr:=z2w isLow s j a;by_cases c:isLow s[j]=true
   ·rw[c] at K
    have HX:Hid (N=(j+1)+runL isLow (s.data.toList.drop (j+1))):=by apply Lib.hid;rw[HJ.out,hr,if_pos c];omega
    clear hr c;go_wp2_with (go_at_call 50;((with_reducible refine(K.out _).mono ?_));rintro e w' ⟨rfl,rfl⟩)
    go_round
    case rel=>exact⟨j+1,by omega,by go_num,HX.out⟩
    case measure=>simp[intOf];omega
   ·rw[Bool.eq_false_iff.2 c] at K
    have HX:Hid (j=N):=by apply Lib.hid;rw[HJ.out,hr,if_neg c];omega
    clear hr c;go_wp2_with (go_at_call 50;((with_reducible refine(K.out _).mono ?_));rintro e w' ⟨rfl,rfl⟩);go_ret;exact⟨z0m (by rw[HX.out]),rfl⟩
  ·have HX:Hid (j=N):=by apply Lib.hid;rw[HJ.out,z2f _ _ _ a];omega
   go_wp2;go_ret;exact⟨z0m (by rw[HX.out]),rfl⟩
theorem y6d (s:BA) (k:Nat) (hk:k≤s.size) (hs:s.size≤1000000) (w:World):
  Cz 45 #[s,k,.func (.func 48) #[] #[]] w fun e w'=>e= .returned (.int .i64 ((k+runL isDig (s.data.toList.drop k):Nat):Int))∧w=w':=by
 obtain⟨N,hN⟩:∃ N,N=k+runL isDig (s.data.toList.drop k):=⟨_,rfl⟩;rw[←hN];have HN:=zz hN;clear hN;go_enter Tryz.func45,Tryz.ntmps45;go_wp2
 go_loop [1] (fun a=>∃ j:Nat,j≤s.size∧a= .int .i64 j∧N=j+runL isDig (s.data.toList.drop j)) (fun a=>s.size - (intOf a).toNat)
 case atStart=>exact⟨k,hk,rfl,HN.out⟩
 case round=>
  obtain⟨j,hj,rfl,hn⟩:=hrel;have HJ:=zz hn;clear hn;by_cases a:j<s.size
  ·have K:=zz fun w=>z2v s[j] w
   have hr:=z2w isDig s j a;by_cases c:isDig s[j]=true
   ·rw[c] at K
    have HX:Hid (N=(j+1)+runL isDig (s.data.toList.drop (j+1))):=by apply Lib.hid;rw[HJ.out,hr,if_pos c];omega
    clear hr c;go_wp2_with (go_at_call 48;((with_reducible refine(K.out _).mono ?_));rintro e w' ⟨rfl,rfl⟩)
    go_round
    case rel=>exact⟨j+1,by omega,by go_num,HX.out⟩
    case measure=>simp[intOf];omega
   ·rw[Bool.eq_false_iff.2 c] at K
    have HX:Hid (j=N):=by apply Lib.hid;rw[HJ.out,hr,if_neg c];omega
    clear hr c;go_wp2_with (go_at_call 48;((with_reducible refine(K.out _).mono ?_));rintro e w' ⟨rfl,rfl⟩);go_ret;exact⟨z0m (by rw[HX.out]),rfl⟩
  ·have HX:Hid (j=N):=by apply Lib.hid;rw[HJ.out,z2f _ _ _ a];omega
   go_wp2;go_ret;exact⟨z0m (by rw[HX.out]),rfl⟩
theorem y81 (s:BA) (k:Nat) (hk:k≤s.size) (hs:s.size≤1000000) (w:World):
  Cz 45 #[s,k,.func (.func 46) #[] #[]] w fun e w'=>e= .returned (.int .i64 ((k+runL notNl (s.data.toList.drop k):Nat):Int))∧w=w':=by
 obtain⟨N,hN⟩:∃ N,N=k+runL notNl (s.data.toList.drop k):=⟨_,rfl⟩;rw[←hN];have HN:=zz hN;clear hN;go_enter Tryz.func45,Tryz.ntmps45;go_wp2
 go_loop [1] (fun a=>∃ j:Nat,j≤s.size∧a= .int .i64 j∧N=j+runL notNl (s.data.toList.drop j)) (fun a=>s.size - (intOf a).toNat)
 case atStart=>exact⟨k,hk,rfl,HN.out⟩
 case round=>
  obtain⟨j,hj,rfl,hn⟩:=hrel;have HJ:=zz hn;clear hn;by_cases a:j<s.size
  ·have K:=zz fun w=>x4e s[j] w
   have hr:=z2w notNl s j a;by_cases c:notNl s[j]=true
   ·rw[c] at K
    have HX:Hid (N=(j+1)+runL notNl (s.data.toList.drop (j+1))):=by apply Lib.hid;rw[HJ.out,hr,if_pos c];omega
    clear hr c;go_wp2_with (go_at_call 46;((with_reducible refine(K.out _).mono ?_));rintro e w' ⟨rfl,rfl⟩)
    go_round
    case rel=>exact⟨j+1,by omega,by go_num,HX.out⟩
    case measure=>simp[intOf];omega
   ·rw[Bool.eq_false_iff.2 c] at K
    have HX:Hid (j=N):=by apply Lib.hid;rw[HJ.out,hr,if_neg c];omega
    clear hr c;go_wp2_with (go_at_call 46;((with_reducible refine(K.out _).mono ?_));rintro e w' ⟨rfl,rfl⟩);go_ret;exact⟨z0m (by rw[HX.out]),rfl⟩
  ·have HX:Hid (j=N):=by apply Lib.hid;rw[HJ.out,z2f _ _ _ a];omega
   go_wp2;go_ret;exact⟨z0m (by rw[HX.out]),rfl⟩
theorem z00 {s:BA} {l:Bs} (h:¬ s.data.toList=l):(s.toList==l)=false:=by rw[toList_data];simpa using h
theorem z9g (s:BA) (w:World):Cz 98 #[s] w fun e w'=>e= .returned (.bool (isSignL s.data.toList))∧w=w':=by
 by_cases h:isSignL s.data.toList=true
 ·rw[h]
  have hm:=z83 h;clear h;unfold sgns at hm;simp only[List.mem_cons,List.not_mem_nil,or_false] at hm
  rcases hm with h | h | h | h | h | h | h | h | h | h | h | h | h | h | h | h | h | h
  all_goals
   obtain rfl:=ba_eq s _ h;clear h;go_enter Tryz.func98,Tryz.ntmps98;go_wp2;go_ret;exact⟨rfl,rfl⟩
 ·have h:=Bool.eq_false_iff.2 h
  rw[h]
  have hn:∀ x∈sgns,¬ s.data.toList=x:=fun x hx e=>by
   rw[e] at h;unfold isSignL at h;rw[List.contains_iff_mem.2 hx] at h;cases h
  have n0:=z00 (hn [60,61] (by decide));have n1:=z00 (hn [62,61] (by decide));have n2:=z00 (hn [61,61] (by decide));have n3:=z00 (hn [33,61] (by decide));have n4:=z00 (hn [38,38] (by decide));have n5:=z00 (hn [124,124] (by decide));have n6:=z00 (hn [123] (by decide));have n7:=z00 (hn [125] (by decide));have n8:=z00 (hn [40] (by decide));have n9:=z00 (hn [41] (by decide));have n10:=z00 (hn [43] (by decide));have n11:=z00 (hn [45] (by decide));have n12:=z00 (hn [42] (by decide));have n13:=z00 (hn [47] (by decide));have n14:=z00 (hn [37] (by decide));have n15:=z00 (hn [60] (by decide));have n16:=z00 (hn [62] (by decide));have n17:=z00 (hn [33] (by decide));clear hn h;go_enter Tryz.func98,Tryz.ntmps98;go_wp2;go_ret;exact⟨rfl,rfl⟩
theorem y58 (s:BA) (w:World):Cz 129 #[s] w fun e w'=>e= .returned (.bool (isFlagL s.data.toList))∧w=w':=by
 by_cases h:isFlagL s.data.toList=true
 ·rw[h]
  unfold isFlagL at h
  rcases of_decide_eq_true h with h | h | h | h
  all_goals
   obtain rfl:=ba_eq s _ h;clear h;go_enter Tryz.func129,Tryz.ntmps129;go_wp2;go_ret;exact⟨rfl,rfl⟩
 ·have h:=Bool.eq_false_iff.2 h
  rw[h];unfold isFlagL at h;have h:=of_decide_eq_false h;have n0:=z00 (fun e=>h (.inl e));have n1:=z00 (fun e=>h (.inr (.inl e)));have n2:=z00 (fun e=>h (.inr (.inr (.inl e))));have n3:=z00 (fun e=>h (.inr (.inr (.inr e))));clear h;go_enter Tryz.func129,Tryz.ntmps129;go_wp2;go_ret;exact⟨rfl,rfl⟩
theorem y6x (s:BA) (h:0<s.size):isWordL s.data.toList=(isLow s[0] && decide (1+runL isIn (s.data.toList.drop 1)=s.size) && decide (s.size≤14)):=by
 have hl:=z0d s;have hf:=y1e isIn (s.data.toList.drop 1);have hd:=z0h s 0 h;rw[drop0] at hd;rw[hd] at hl;rw[List.length_cons,List.length_drop,z0d] at hl;rw[List.length_drop,z0d] at hf
 conv=>lhs;rw[hd]
 show (isLow s[0] && (s.data.toList.drop 1).all isIn && decide ((s.data.toList.drop (0+1)).length≤13))=_;rw[Nat.zero_add,List.length_drop,z0d]
 congr 1
 ·congr 1
  rw[Bool.eq_iff_iff,decide_eq_true_iff,←hf];omega
 ·rw[Bool.eq_iff_iff,decide_eq_true_iff,decide_eq_true_iff];omega
theorem y6v (s:BA) (h:0<s.size) (hs:s.size≤1000000) (w:World):
 Cz 45 #[s,iI 1,.func (.func 52) #[] #[]] w fun e w'=>e= .returned (.int .i64 ((1+runL isIn (s.data.toList.drop 1):Nat):Int))∧w=w':=z60 s 1 h hs w
theorem y5y (s:BA) (w:World):Cz 128 #[s] w fun e w'=>e= .returned (.bool (isWordL s.data.toList))∧w=w':=by
 by_cases h0:0<s.size
 ·rw[y6x s h0]
  have he:=z31 s h0;have he2:¬ s.toList=[]:=by intro e;rw[e] at he;cases he
  by_cases h14:s.size≤14
  ·rw[decide_eq_true h14,Bool.and_true]
   have KL:=zz fun w=>z2d s[0] w
   have KR:=zz fun w=>y6v s h0 (by omega) w
   generalize isLow s[0]=l at KL ⊢;generalize runL isIn (s.data.toList.drop 1)=R at KR ⊢
   cases l
   ·go_enter Tryz.func128,Tryz.ntmps128
    go_wp2_with (go_at_call 50;((with_reducible refine(KL.out _).mono ?_));rintro e w' ⟨rfl,rfl⟩);go_ret;exact⟨rfl,rfl⟩
   ·rw[Bool.true_and]
    obtain⟨q,hq⟩:∃ q:Nat,q=1+R:=⟨_,rfl⟩;rw[←hq] at KR ⊢;clear hq;by_cases hc:q=s.size
    ·rw[decide_eq_true hc]
     rw[hc] at KR;clear hc;go_enter Tryz.func128,Tryz.ntmps128;go_wp2_with (first | (go_at_call 50;((with_reducible refine(KL.out _).mono ?_));rintro e w' ⟨rfl,rfl⟩) | (go_at_call 45;((with_reducible refine(KR.out _).mono ?_));rintro e w' ⟨rfl,rfl⟩));go_ret;exact⟨rfl,rfl⟩
    ·rw[decide_eq_false hc]
     have hb:((q:Int)==(s.size:Int))=false:=by simp;omega
     have hb2:(q==s.size)=false:=by simpa using hc
     clear hc;go_enter Tryz.func128,Tryz.ntmps128;go_wp2_with (first | (go_at_call 50;((with_reducible refine(KL.out _).mono ?_));rintro e w' ⟨rfl,rfl⟩) | (go_at_call 45;((with_reducible refine(KR.out _).mono ?_));rintro e w' ⟨rfl,rfl⟩));go_ret;exact⟨rfl,rfl⟩
  ·rw[decide_eq_false h14,Bool.and_false]
   go_enter Tryz.func128,Tryz.ntmps128;go_wp2;go_ret;exact⟨rfl,rfl⟩
 ·have e:=z2y s h0
  have he:s.toList.isEmpty=true:=by rw[toList_data,e];rfl
  have he2:s.toList=[]:=by rw[toList_data,e]
  rw[e];clear e;go_enter Tryz.func128,Tryz.ntmps128;go_wp2;go_ret;exact⟨rfl,rfl⟩
theorem z7c (k:Int) (s:BA) (hs:s.size≤4611686018427387904) (w:World):Cz 97 #[k,s] w fun e w'=>e= .returned (.bool (mayW k s.data.toList))∧w=w':=by
 unfold mayW;have K1:=zz fun w=>y5y s w
 have K4:=zz fun w=>z9g s w
 have K5:=zz fun w=>y58 s w
 have K6:=zz fun w=>z5l s hs w
 generalize isWordL s.data.toList=x1 at K1 ⊢;generalize isSignL s.data.toList=x4 at K4 ⊢;generalize isFlagL s.data.toList=x5 at K5 ⊢;generalize isName s.data.toList=x6 at K6 ⊢;by_cases h1:k=1
 ·subst h1
  rw[if_pos rfl];go_enter Tryz.func97,Tryz.ntmps97;go_wp2_with (go_at_call 128;((with_reducible refine(K1.out _).mono ?_));rintro e w' ⟨rfl,rfl⟩);go_ret;exact⟨rfl,rfl⟩
 ·rw[if_neg h1]
  have b1:(k==1)=false:=by simpa using h1
  clear h1;by_cases h4:k=4
  ·subst h4
   rw[if_pos rfl];go_enter Tryz.func97,Tryz.ntmps97;go_wp2_with (go_at_call 98;((with_reducible refine(K4.out _).mono ?_));rintro e w' ⟨rfl,rfl⟩);go_ret;exact⟨rfl,rfl⟩
  ·rw[if_neg h4]
   have b4:(k==4)=false:=by simpa using h4
   clear h4;by_cases h5:k=5
   ·subst h5
    rw[if_pos rfl];go_enter Tryz.func97,Tryz.ntmps97;go_wp2_with (go_at_call 129;((with_reducible refine(K5.out _).mono ?_));rintro e w' ⟨rfl,rfl⟩);go_ret;exact⟨rfl,rfl⟩
   ·rw[if_neg h5]
    have b5:(k==5)=false:=by simpa using h5
    clear h5;by_cases h6:k=6
    ·subst h6
     rw[if_pos rfl];go_enter Tryz.func97,Tryz.ntmps97;go_wp2_with (go_at_call 99;((with_reducible refine(K6.out _).mono ?_));rintro e w' ⟨rfl,rfl⟩);go_ret;exact⟨rfl,rfl⟩
    ·rw[if_neg h6]
     have b6:(k==6)=false:=by simpa using h6
     clear h6;go_enter Tryz.func97,Tryz.ntmps97;go_wp2;go_ret;exact⟨rfl,rfl⟩
theorem y0w (s:BA) (j:Nat) (h:j<s.size) (c:isBl s[j]=true):gap false (s.data.toList.drop j)=gap false (s.data.toList.drop (j+1))+1:=by rw[z0h s j h,z3r,if_pos c]
theorem z7l (s:BA) (j:Nat) (h:j<s.size) (c:s[j]=35):gap false (s.data.toList.drop j)=runL notNl (s.data.toList.drop j)+gap false (s.data.toList.drop (j+runL notNl (s.data.toList.drop j)))∧0<runL notNl (s.data.toList.drop j):=by
 have e:s.data.toList.drop j=35::s.data.toList.drop (j+1):=by rw[z0h s j h,c]
 have hg:=x09 (s.data.toList.drop (j+1));rw[←e,List.drop_drop] at hg;refine⟨hg,?_⟩;rw[e,z1t,if_pos (by decide)];omega
theorem y0v (s:BA) (j:Nat) (h:j<s.size) (c:¬ isBl s[j]=true) (d:s[j]≠35):gap false (s.data.toList.drop j)=0:=by rw[z0h s j h,z3r,if_neg c,if_neg d]
theorem z87 (s:BA) (j:Nat) (h:¬ j<s.size):gap false (s.data.toList.drop j)=0:=by rw[z07 s j h];rfl
theorem y5v (s:BA) (k:Nat) (hk:k≤s.size) (hs:s.size≤1000000) (w:World):
  Cz 29 #[s,k] w fun e w'=>e= .returned (.int .i64 (behind s.data.toList k))∧w=w':=by
 obtain⟨N,hN⟩:∃ N,N=behind s.data.toList k:=⟨_,rfl⟩;rw[←hN];unfold behind at hN;have HN:=zz hN;clear hN;go_enter Tryz.func29,Tryz.ntmps29;go_wp2
 go_loop [1] (fun a=>∃ j:Nat,j≤s.size∧a= .int .i64 j∧N=j+gap false (s.data.toList.drop j)) (fun a=>s.size - (intOf a).toNat)
 case atStart=>exact⟨k,hk,rfl,HN.out⟩
 case round=>
  obtain⟨j,hj,rfl,hn⟩:=hrel;have HJ:=zz hn;clear hn;by_cases a:j<s.size
  ·have K:=zz fun w=>x3e s[j] w
   by_cases c:isBl s[j]=true
   ·have hr:=y0w s j a c
    rw[c] at K;have HX:Hid (N=(j+1)+gap false (s.data.toList.drop (j+1))):=by apply Lib.hid;rw[HJ.out,hr];omega
    clear hr c;go_wp2_with (go_at_call 44;((with_reducible refine(K.out _).mono ?_));rintro e w' ⟨rfl,rfl⟩)
    go_round
    case rel=>exact⟨j+1,by omega,by go_num,HX.out⟩
    case measure=>simp[intOf];omega
   ·by_cases d:s[j]=35
    ·obtain⟨hr,h0⟩:=z7l s j a d
     have b35:((s[j].toNat:Int)==35)=true:=z08 (n:=35) d (by omega);have KR:=zz fun w=>y81 s j hj hs w
     have hle:=z1w notNl (s.data.toList.drop j);rw[List.length_drop,z0d] at hle;rw[Bool.eq_false_iff.2 c] at K;generalize runL notNl (s.data.toList.drop j)=r at KR hr h0 hle;obtain⟨q,hq⟩:∃ q,q=j+r:=⟨_,rfl⟩;have HX:Hid (N=q+gap false (s.data.toList.drop q)):=by apply Lib.hid;rw[HJ.out,hr,hq];omega
     rw[←hq] at KR;have q1:j<q:=by omega
     have q2:q≤s.size:=by omega
     clear hr c d hq h0 hle;go_wp2_with (first | (go_at_call 44;((with_reducible refine(K.out _).mono ?_));rintro e w' ⟨rfl,rfl⟩) | (go_at_call 45;((with_reducible refine(KR.out _).mono ?_));rintro e w' ⟨rfl,rfl⟩))
     go_round
     case rel=>exact⟨q,q2,rfl,HX.out⟩
     case measure=>simp[intOf];omega
    ·have hr:=y0v s j a c d
     have b35:((s[j].toNat:Int)==35)=false:=z0s (n:=35) d (by omega);rw[Bool.eq_false_iff.2 c] at K;have HX:Hid (j=N):=by apply Lib.hid;rw[HJ.out,hr];omega
     clear hr c d;go_wp2_with (go_at_call 44;((with_reducible refine(K.out _).mono ?_));rintro e w' ⟨rfl,rfl⟩);go_ret;exact⟨z0m (by rw[HX.out]),rfl⟩
  ·have HX:Hid (j=N):=by apply Lib.hid;rw[HJ.out,z87 _ _ a];omega
   go_wp2;go_ret;exact⟨z0m (by rw[HX.out]),rfl⟩
def sgD (l:Bs):Nat→Nat
 | 0=>0
 | n+1=>if isSignL (l.take (n+1)) then n+1 else sgD l n
theorem y9q (l:Bs):signL l=sgD l (min 2 l.length):=by
 rcases l with _ | ⟨a,_ | ⟨b,r⟩⟩
 ·rfl
 ·have e:min 2 ([a]:Bs).length=1:=rfl
  rw[e];show (if isSignL [a] then 1 else if isSignL [a] then 1 else 0)=if isSignL [a] then 1 else 0
  split <;> rfl
 ·have e:min 2 (a::b::r:Bs).length=2:=by simp
  rw[e]
  rfl
theorem z1g (s:BA) (a n:Nat):(s.extract a (a+n)).data.toList=(s.data.toList.drop a).take n:=by rw[y0n]
theorem z8d (s:BA) (k:Nat) (hk:k<s.size) (hs:s.size≤1000000) (w:World):
  Cz 53 #[s,k] w fun e w'=>e= .returned (.int .i64 ((k+signL (s.data.toList.drop k):Nat):Int))∧w=w':=by
 obtain⟨N,hN⟩:∃ N,N=k+signL (s.data.toList.drop k):=⟨_,rfl⟩;rw[←hN];rw[y9q,List.length_drop,z0d] at hN;obtain⟨m,hm⟩:∃ m,m=min 2 (s.size - k):=⟨_,rfl⟩;rw[←hm] at hN;have m1:m≤2:=by omega
 have m2:k+m≤s.size:=by omega
 have hmin:min ((k:Int)+2) (s.size:Int)=((k+m:Nat):Int):=by omega
 have HN:=zz hN;clear hN hm;go_enter Tryz.func53,Tryz.ntmps53;go_wp2
 go_loop [5] (fun a=>∃ j:Nat,j≤2∧k+j≤s.size∧a= .int .i64 ((k+j:Nat):Int)∧N=k+sgD (s.data.toList.drop k) j) (fun a=>(intOf a).toNat - k)
 case atStart=>exact⟨m,m1,m2,by go_num,HN.out⟩
 case round=>
  obtain⟨j,j2,hj,rfl,hn⟩:=hrel
  cases j with
  | zero=>
    have HX:Hid (k=N):=zz (by rw[hn];rfl);clear hn;go_wp2;go_ret;exact⟨z0m (by rw[HX.out]),rfl⟩
  | succ j=>
    have K:=zz fun w=>z9g (s.extract k (k+(j+1))) w
    rw[z1g] at K;have hstep:sgD (s.data.toList.drop k) (j+1)=if isSignL ((s.data.toList.drop k).take (j+1)) then j+1 else sgD (s.data.toList.drop k) j:=rfl
    rw[hstep] at hn;clear hstep;obtain⟨q,hq⟩:∃ q,q=k+(j+1):=⟨_,rfl⟩;have q1:k<q:=by omega
    have HQ:=zz hq;rw[←hq] at K hj ⊢;generalize isSignL ((s.data.toList.drop k).take (j+1))=b at K hn
    cases b
    ·have HX:Hid (N=k+sgD (s.data.toList.drop k) j):=zz hn
     clear hn hq;go_wp2_with (go_at_call 98;((with_reducible refine(K.out _).mono ?_));rintro e w' ⟨rfl,rfl⟩)
     go_round
     case rel=>exact⟨j,by omega,by have:=HQ.out;omega,by have:=HQ.out;congr 1;omega,HX.out⟩
     case measure=>have:=HQ.out;simp[intOf];omega
    ·have HX:Hid (q=N):=zz (by rw[hn,hq];rfl)
     clear hn hq;go_wp2_with (go_at_call 98;((with_reducible refine(K.out _).mono ?_));rintro e w' ⟨rfl,rfl⟩);go_ret;exact⟨z0m (by rw[HX.out]),rfl⟩
theorem bcell {W w1:World} (hb:Below W.heap.size W w1):(∀ b o,b<W.heap.size→w1.cell? ⟨b,o,none⟩=W.cell? ⟨b,o,none⟩)∧(∀ b o,b<W.heap.size→w1.frozen? ⟨b,o,none⟩=W.frozen? ⟨b,o,none⟩):=
 ⟨fun b o h=>hb.cell (p:=⟨b,o,none⟩) h,fun b o h=>hb.frozen (p:=⟨b,o,none⟩) h⟩
theorem z1l {w w1:World} {o:Obj} (hb:Below (w.alloc o).heap.size (w.alloc o) w1):w.heap.size+1≤w1.heap.size:=by
 have:=hb.size;simp at this;omega
theorem z7s {w:World} {B T s n:Nat} {v:Value} {xs:List Value} (h:w.ownsRow B T s v n xs) {p:Addr} (hlt:p.block<B) (u:Value):(w.setCell p u).ownsRow B T s v n xs:=by
 refine h.kept (w':=w.setCell p u) (row:=some p.block) ⟨rfl,rfl,rfl,by simp,fun k _ hk=>Below.heap_setCell w p u k (fun e=>hk (by rw[e]))⟩ ?_
 rcases hv:v.ownBlock with _ | b
 ·exact .inl rfl
 ·right
  have:=(h.lt b hv).1;intro e;injection e with e
  omega
abbrev put5 (w:World) (b:Nat) (u0 u1 u2 u3 u4:Value):World:=((((w.setCell ⟨b,0,none⟩ u0).setCell ⟨b,1,none⟩ u1).setCell ⟨b,2,none⟩ u2).setCell ⟨b,3,none⟩ u3).setCell ⟨b,4,none⟩ u4
theorem z1b {w w1:World} {o:Obj} (hb:Below (w.alloc o).heap.size (w.alloc o) w1) (u0 u1 u2 u3 u4:Value):Below w.heap.size w (put5 w1 w.heap.size u0 u1 u2 u3 u4):=by
 have e:(w.alloc o).heap.size=w.heap.size+1:=by simp
 exact(((((((bR.alloc nR o).trans (hb.mono (by omega))).setCell nR u0).setCell nR u1).setCell nR u2).setCell nR u3).setCell nR u4)
theorem z98 {w w1:World} {o:Obj} {T s n:Nat} {v:Value} {xs:List Value} (h:w1.ownsRow (w.alloc o).heap.size T s v n xs) (u0 u1 u2 u3 u4:Value):(put5 w1 w.heap.size u0 u1 u2 u3 u4).ownsRow w.heap.size T s v n xs:=by
 have e:(w.alloc o).heap.size=w.heap.size+1:=by simp
 have hlt:∀ j,(⟨w.heap.size,j,none⟩:Addr).block<(w.alloc o).heap.size:=fun j=>by rw[e];exact Nat.lt_succ_self _
 exact World.ownsRow.mono (z7s (z7s (z7s (z7s (z7s h (hlt 0) u0) (hlt 1) u1) (hlt 2) u2) (hlt 3) u3) (hlt 4) u4) (by omega)
theorem z57 (s:BA) (h:s.size≤281474976710656) (w:World):Cz 89 #[s] w fun e w'=>e= .returned (.string s)∧Below w.heap.size w w':=z49 s h w
def resW (b:Bool) (k:Int) (W:BA) (at' to':Int):Value:=if b then .tuple #[.agg #[k,W,oZ,(),oZ],to',oZ] else .tuple #[.agg #[oZ,oS,oZ,(),oZ],at',iI 1]
theorem y2n (s:BA) (k f n:Nat) (kd:Int) (hf:f+n≤s.size) (hs:s.size≤1000000) (w:World):
  Cz 51 #[s,k,kd,f,iI ((f+n:Nat):Int)] w fun e w'=>e= .returned (resW (mayW kd ((s.data.toList.drop f).take n)) kd (s.extract f (f+n)) k ((f+n:Nat):Int))∧Below w.heap.size w w':=by
 have hx:(s.extract f (f+n)).size≤1000000:=by
  rw[←z0d,z1g,List.length_take,List.length_drop,z0d];omega
 have K:=zz fun w=>z7c kd (s.extract f (f+n)) (by omega) w
 have KC:=zz fun w=>z49 (s.extract f (f+n)) (by omega) w
 rw[z1g] at K;generalize mayW kd ((s.data.toList.drop f).take n)=b at K ⊢;obtain⟨q,hq⟩:∃ q,q=f+n:=⟨_,rfl⟩;rw[←hq] at K KC hf ⊢;have q1:f≤q:=by omega
 clear hq hx
 cases b
 ·go_enter Tryz.func51,Tryz.ntmps51
  go_wp2_with (go_at_call 97;((with_reducible refine(K.out _).mono ?_));rintro e w' ⟨rfl,rfl⟩);exact bodyPost_ret (v:=resW false kd (s.extract f q) k q) (by simp[results,Tryz.results51,go_sem,resW]) rfl ⟨rfl,bR.alloc nR _⟩
 ·go_enter Tryz.func51,Tryz.ntmps51
  go_wp2_with (first | (go_at_call 97;((with_reducible refine(K.out _).mono ?_));rintro e w' ⟨rfl,rfl⟩) | (go_at_call 89;((with_reducible refine(KC.out _).mono ?_));rintro e w' ⟨rfl,hb⟩;obtain⟨hc,hfz⟩:=bcell hb;have hz:=z1l hb;have HB:=zz hb;clear hb));exact bodyPost_ret (v:=resW true kd (s.extract f q) k q) (by simp[results,Tryz.results51,go_sem,resW,hc]) rfl ⟨rfl,z1b HB.out _ _ _ _ _⟩
theorem x1b (c:UInt8) (h:isDig c=true):¬ c=45:=by rintro rfl;revert h;decide
theorem y1w (l:Bs) (h:l.all isDig=true) (h0:l≠[]):specL l (numR l).1 (numR l).2:=by
 cases l with
 | nil=>exact absurd rfl h0
 | cons c r=>
   have hc:¬ c=45:=x1b c (by rw[List.all_cons,Bool.and_eq_true] at h;exact h.1);have hd:(c::r).all digB=true:=by rw[←y3t];exact h
   have hf:formL (c::r)=if c=48 then r.isEmpty else true:=by
    rw[z8o c r hc];unfold formD;dsimp only
    split
    ·simp
    ·exact h
   have h48n:¬ c=48→numR (c::r)=if valN (c::r)<9223372036854775808 then ((valN (c::r):Int),0) else (0,3):=fun h=>by
    unfold numR;rw[if_neg (by rintro⟨e,_⟩;injection e with e;exact h e)]
   unfold specL;by_cases h48:c=48
   ·rw[if_pos h48] at hf
    cases r with
    | nil=>
      subst h48;have hn:numR [48]=(0,0):=by decide
      rw[hf,z3b _ _ hc,z3z _ _ hc,hn];unfold specD;rw[if_pos (show ([]:Bs).isEmpty=true from rfl),if_pos hd];exact⟨0,rfl,by decide⟩
    | cons d r=>
      have hn:numR (c::d::r)=(0,1):=by
       unfold numR;rw[if_pos ⟨by rw[h48];rfl,by simp⟩]
      rw[hf,hn,if_neg (by simp)];exact⟨rfl,rfl⟩
   ·rw[if_neg h48] at hf
    rw[hf,if_pos rfl,z3b c r hc,z3z c r hc,h48n h48];unfold specD;rw[if_pos hd];refine⟨(valN (c::r):Int),rfl,?_⟩;by_cases hv:valN (c::r)<9223372036854775808
    ·rw[if_pos hv,if_pos (by omega)];exact⟨rfl,rfl⟩
    ·rw[if_neg hv,if_neg (by omega)];exact⟨rfl,rfl⟩
def tokV (t:Tok) (v:Value):Value:= .agg #[t.kind,t.word,t.n,v,t.pl]
abbrev OwnP (B:Nat) (w:World) (v:Value) (ps:List Pt):Prop:=w.ownsRow B 81 2 v ps.length (cellsP ps)
def posR (k:Nat) (R:TR):Nat:=match R with | .bad q _=>k+q | .ok _ q=>k+q
def errR (R:TR):Int:=match R with | .bad _ e=>e | .ok _ _=>0
def PostR (w0:World) (k:Nat) (R:TR) (e:Ending) (w':World):Prop:=
 ∃ (t:Tok) (v:Value),e= .returned (.tuple #[tokV t v,iI (posR k R),iI (errR R)])∧OwnP w0.heap.size w' v t.parts∧Below w0.heap.size w0 w'∧∀ t' q,R= .ok t' q→t'=t
theorem y5e (s:BA) (a n:Nat):s.extract a (a+n)=⟨((s.data.toList.drop a).take n).toArray⟩:=y0n s a n
theorem y7m {w w':World} {s:BA} {k f n q:Nat} {kd:Int} (hb:Below w.heap.size w w') (hq:f+n=k+q):
  PostR w k (wordR kd ((s.data.toList.drop f).take n) q) (.returned (resW (mayW kd ((s.data.toList.drop f).take n)) kd (s.extract f (f+n)) k ((f+n:Nat):Int))) w':=by
 unfold wordR;by_cases h:mayW kd ((s.data.toList.drop f).take n)=true
 ·rw[if_pos h,h,y5e,hq]
  exact⟨⟨kd,(s.data.toList.drop f).take n,0,[],0⟩,(),rfl,World.ownsRow_nil _ _ _ _,hb,fun t' q h=>by injection h with h _;exact h.symm⟩
 ·have hf:=Bool.eq_false_iff.2 h
  rw[if_neg h,hf];exact⟨⟨0,[],0,[],0⟩,(),by simp[resW,tokV,posR,errR],World.ownsRow_nil _ _ _ _,hb,fun t' q h=>by cases h⟩
theorem z8w (l:Bs):numT l=if (numR (l.take (runL isDig l))).2=0 then .ok ⟨2,[],(numR (l.take (runL isDig l))).1,[],0⟩ (runL isDig l) else .bad 0 (numR (l.take (runL isDig l))).2:=rfl
theorem z8i (s:BA) (k:Nat) (hk:k<s.size) (hd:isDig s[k]=true) (hs:s.size≤4000) (w:World) (hG:Given w):
  Cz 49 #[s,k] w (PostR w k (numT (s.data.toList.drop k))):=by
 have KR:=zz fun w=>y6d s k (by omega) (by omega) w
 have hrun:=z1w isDig (s.data.toList.drop k);have hall:=z6h isDig (s.data.toList.drop k);have h0:0<runL isDig (s.data.toList.drop k):=by rw[z2w isDig s k hk,if_pos hd];omega
 rw[List.length_drop,z0d] at hrun;rw[z8w];generalize runL isDig (s.data.toList.drop k)=n at KR hrun hall h0 ⊢
 have hx:(s.extract k (k+n)).size≤4000:=by
  rw[←z0d,z1g,List.length_take,List.length_drop,z0d];omega
 have hne:(s.data.toList.drop k).take n≠[]:=by
  intro e;have:=congrArg List.length e;rw[List.length_take,List.length_drop,z0d,List.length_nil] at this;omega
 have hsp:=y1w _ hall hne;obtain⟨n0,n1,n2⟩:=z4a ((s.data.toList.drop k).take n);rw[←z1g] at hsp
 have KP:Hid (∀ w,Given w→Cz 96 #[.string (s.extract k (k+n))] w fun e w'=>e= .returned (.tuple #[iI (numR (s.extract k (k+n)).data.toList).1,iI (numR (s.extract k (k+n)).data.toList).2])∧Below w.heap.size w w'):=
  zz fun w hg=>y5p _ hx _ _ hsp w hg
 rw[z1g] at KP;generalize numR ((s.data.toList.drop k).take n)=R at KP n0 n1 n2 ⊢;obtain⟨v,x⟩:=R;dsimp only at KP n0 n1 n2 ⊢;have HG:=zz hG;obtain⟨q,hq⟩:∃ q,q=k+n:=⟨_,rfl⟩;have HQ:=zz hq;rw[←hq] at KR KP;have q1:k≤q:=by omega
 have q2:q≤s.size:=by omega
 clear hsp hne hx hall hd hG hq hrun h0;by_cases hx0:x=0
 ·subst hx0
  rw[if_pos rfl];go_enter Tryz.func49,Tryz.ntmps49;go_wp2_with (first | (go_at_call 45;((with_reducible refine(KR.out _).mono ?_));rintro e w' ⟨rfl,rfl⟩) | (go_at_call 96;((with_reducible refine(KP.out _ (HG.out.below (bR.alloc nR _))).mono ?_));rintro e w' ⟨rfl,hb⟩;obtain⟨hc,hfz⟩:=bcell hb;have hz:=z1l hb;have HB:=zz hb;clear hb));refine bodyPost_ret (v:= .tuple #[tokV ⟨2,[],v,[],0⟩ (.slice none 0 0),q,oZ]) (by simp[results,Tryz.results49,go_sem,hc,tokV]) rfl ⟨_,_,?_,World.ownsRow_nil _ _ _ _,z1b HB.out _ _ _ _ _,fun t' q h=>by injection h with h _;exact h.symm⟩;rw[HQ.out];rfl
 ·rw[if_neg hx0]
  have hb0:(x != 0)=true:=by simpa using hx0
  clear hx0;go_enter Tryz.func49,Tryz.ntmps49;go_wp2_with (first | (go_at_call 45;((with_reducible refine(KR.out _).mono ?_));rintro e w' ⟨rfl,rfl⟩) | (go_at_call 96;((with_reducible refine(KP.out _ (HG.out.below (bR.alloc nR _))).mono ?_));rintro e w' ⟨rfl,hb⟩;obtain⟨hc,hfz⟩:=bcell hb;have hz:=z1l hb;have HB:=zz hb;clear hb));exact bodyPost_ret (v:= .tuple #[tokV ⟨0,[],0,[],0⟩ (.slice none 0 0),k,x]) (by simp[results,Tryz.results49,go_sem,hc,tokV]) rfl ⟨_,_,rfl,World.ownsRow_nil _ _ _ _,z1b HB.out _ _ _ _ _,fun t' q h=>by cases h⟩
theorem x3p (l:Bs):textR l=match parse l with | (none,q)=> .bad q 1 | (some ps,q)=> .ok ⟨3,[],0,ps,0⟩ q:=rfl
theorem y49 (s:BA) (k:Nat):(s.extract k s.size).data.toList=s.data.toList.drop k:=by
 by_cases h:k≤s.size
 ·have:=z1g s k (s.size - k)
  rw[show k+(s.size - k)=s.size by omega] at this;rw[this,List.take_of_length_le (by rw[List.length_drop,z0d];omega)]
 ·rw[z07 s k (by omega)]
  apply List.eq_nil_of_length_eq_zero;rw[z0d,ByteArray.size_extract];omega
def textA (R:Option (List Pt) × Nat):TR:=match R with | (none,q)=> .bad q 1 | (some ps,q)=> .ok ⟨3,[],0,ps,0⟩ q
theorem y17 (s:BA) (k:Nat) (hk:k<s.size) (hs:s.size≤4000) (w:World):
  Cz 47 #[s,k] w (PostR w k (textR (s.data.toList.drop k))):=by
 have KP:=zz fun w=>y7y (s.extract k s.size) (by rw[ByteArray.size_extract];omega) w
 rw[y49] at KP;show Cz 47 #[s,k] w (PostR w k (textA (parse (s.data.toList.drop k))));have hbd:=(z6l (s.data.toList.drop k)).1;rw[List.length_drop,z0d] at hbd;generalize parse (s.data.toList.drop k)=R at KP hbd ⊢;obtain⟨o,q⟩:=R;dsimp only at hbd
 have KP:Hid (∀ w,Cz 95 #[.string (s.extract k s.size)] w fun e w'=>∃ A c,e= .returned (.tuple #[.slice A (outOf o).length c,q,iI (errOf o)])∧OwnP w.heap.size w' (.slice A (outOf o).length c) (outOf o)∧Below w.heap.size w w'):=zz fun w=>(KP.out w).mono fun e w' ⟨v,he,ho,hb⟩=>by
  obtain⟨A,c,rfl,_⟩:=z27 (ps:=outOf o) ho;exact⟨A,c,he,ho,hb⟩
 go_enter Tryz.func47,Tryz.ntmps47;go_wp2_with (go_at_call 95;((with_reducible refine(KP.out _).mono ?_));rintro e w' ⟨A,c,rfl,ho,hb⟩;obtain⟨hc,hfz⟩:=bcell hb;have hz:=z1l hb;have HB:=zz hb;have HO:=zz ho;clear hb ho);refine bodyPost_ret (v:= .tuple #[tokV ⟨3,[],0,outOf o,0⟩ (.slice A (outOf o).length c),iI ((k:Int)+q),iI (errOf o)]) (by simp[results,Tryz.results47,go_sem,hc,tokV]) rfl ⟨⟨3,[],0,outOf o,0⟩,.slice A (outOf o).length c,?_,z98 HO.out _ _ _ _ _,z1b HB.out _ _ _ _ _,?_⟩
 ·cases o <;> rfl
 ·intro t' q' h
  cases o with
  | none=>cases h
  | some ps=>injection h with h _;exact h.symm
theorem PostR.form {w w':World} {k:Nat} {R:TR} {e:Ending} (h:PostR w k R e w'):∃ (t:Tok) (A:OA) (c:Nat),e= .returned (.tuple #[.agg #[t.kind,t.word,t.n,.slice A t.parts.length c,t.pl],iI (posR k R),iI (errR R)])∧
  Hid (OwnP w.heap.size w' (.slice A t.parts.length c) t.parts∧∀ t' q,R= .ok t' q→t'=t)∧Below w.heap.size w w':=by
 obtain⟨t,v,rfl,ho,hb,ht⟩:=h;obtain⟨A,c,rfl,_⟩:=z27 (ps:=t.parts) ho;exact⟨t,A,c,rfl,zz ⟨ho,ht⟩,hb⟩
theorem z2e {w w1:World} {o:Obj} {k:Nat} {R:TR} {t:Tok} {A:OA} {c:Nat} {z:Int} (hz:z=posR k R) (h:Hid (OwnP (w.alloc o).heap.size w1 (.slice A t.parts.length c) t.parts∧∀ t' q,R= .ok t' q→t'=t))
  (hb:Below (w.alloc o).heap.size (w.alloc o) w1) (u0 u1 u2 u3 u4:Value):
  PostR w k R (.returned (.tuple #[.agg #[t.kind,t.word,t.n,.slice A t.parts.length c,t.pl],z,iI (errR R)])) (put5 w1 w.heap.size u0 u1 u2 u3 u4):=
 ⟨t,.slice A t.parts.length c,by rw[hz];rfl,z98 h.out.1 _ _ _ _ _,z1b hb _ _ _ _ _,h.out.2⟩
theorem z14 (s:BA) (k f n q:Nat) (kd:Int) (R:TR) (hR:R=wordR kd ((s.data.toList.drop f).take n) q) (i j:Int) (hi:i=f) (hj:j=((f+n:Nat):Int)) (hf:f+n≤s.size) (hq:f+n=k+q) (hs:s.size≤1000000) (w:World):
  Cz 51 #[s,k,kd,i,j] w (PostR w k R):=by
 subst hi hj hR;exact(y2n s k f n kd hf hs w).mono fun e w' ⟨he,hb⟩=>by rw[he];exact y7m hb hq
theorem y4v (c:UInt8) (h:isLow c=true):c≠34∧isDig c=false∧c≠36∧c≠45:=by
 have hx:∀ c:UInt8,isLow c=true→c≠34∧isDig c=false∧c≠36∧c≠45:=z5c _ (by decide+kernel);exact hx c h
theorem z8l (s:BA) (k:Nat) (hk:k<s.size) (hs:s.size≤4000) (h34:s[k]=34) (w:World):
  Cz 30 #[s,k] w (PostR w k (tokR (s.data.toList.drop k))):=by
 have hR:tokR (s.data.toList.drop k)=textR (s.data.toList.drop k):=by
  rw[z0h s k hk];unfold tokR;dsimp only;rw[if_pos h34]
 rw[hR];have K:=zz fun w=>y17 s k hk hs w
 generalize textR (s.data.toList.drop k)=R at K ⊢;have b34:((s[k].toNat:Int)==34)=true:=z08 (n:=34) h34 (by omega);clear hR h34;go_enter Tryz.func30,Tryz.ntmps30;go_wp2_with (go_at_call 47;((with_reducible refine(K.out _).mono ?_));rintro e w' hp;obtain⟨t,A,c,rfl,HO,hb⟩:=hp.form;obtain⟨hc,hfz⟩:=bcell hb;have hz:=z1l hb;have HB:=zz hb;clear hb hp);refine bodyPost_ret (v:= .tuple #[.agg #[t.kind,t.word,t.n,.slice A t.parts.length c,t.pl],iI (posR k R),iI (errR R)]) (by simp[results,Tryz.results30,go_sem,hc]) rfl (z2e rfl HO HB.out _ _ _ _ _)
theorem z9i (s:BA) (k:Nat) (hk:k<s.size) (hs:s.size≤4000) (hd:isDig s[k]=true) (h34:s[k]≠34) (w:World) (hG:Given w):
  Cz 30 #[s,k] w (PostR w k (tokR (s.data.toList.drop k))):=by
 have hR:tokR (s.data.toList.drop k)=numT (s.data.toList.drop k):=by
  rw[z0h s k hk];unfold tokR;dsimp only;rw[if_neg h34,if_pos hd]
 rw[hR];have K:=zz fun w hg=>z8i s k hk hd hs w hg
 generalize numT (s.data.toList.drop k)=R at K ⊢;have b34:((s[k].toNat:Int)==34)=false:=z0s (n:=34) h34 (by omega);have KD:=zz fun w=>z2v s[k] w
 rw[hd] at KD;have HG:=zz hG;clear hR h34 hd hG;go_enter Tryz.func30,Tryz.ntmps30;go_wp2_with (first | (go_at_call 48;((with_reducible refine(KD.out _).mono ?_));rintro e w' ⟨rfl,rfl⟩) | (go_at_call 49;((with_reducible refine(K.out _ (HG.out.below (bR.alloc nR _))).mono ?_));rintro e w' hp;obtain⟨t,A,c,rfl,HO,hb⟩:=hp.form;obtain⟨hc,hfz⟩:=bcell hb;have hz:=z1l hb;have HB:=zz hb;clear hb hp));refine bodyPost_ret (v:= .tuple #[.agg #[t.kind,t.word,t.n,.slice A t.parts.length c,t.pl],iI (posR k R),iI (errR R)]) (by simp[results,Tryz.results30,go_sem,hc]) rfl (z2e rfl HO HB.out _ _ _ _ _)
theorem z8j (s:BA) (k:Nat) (hk:k<s.size) (hs:s.size≤4000) (hl:isLow s[k]=true) (w:World):
  Cz 30 #[s,k] w (PostR w k (tokR (s.data.toList.drop k))):=by
 obtain⟨h34,hd,h36,h45⟩:=y4v _ hl;obtain⟨R,hR⟩:∃ R,R=tokR (s.data.toList.drop k):=⟨_,rfl⟩;rw[←hR]
 replace hR:R=wordR 1 ((s.data.toList.drop k).take (runL isIn (s.data.toList.drop k))) (runL isIn (s.data.toList.drop k)):=by
  rw[hR]
  conv=>lhs;rw[z0h s k hk]
  unfold tokR;dsimp only;rw[if_neg h34,if_neg (by rw[hd];decide),if_pos hl,←z0h s k hk]
 have KR:=zz fun w=>z60 s k (by omega) (by omega) w
 have hrun:=z1w isIn (s.data.toList.drop k);rw[List.length_drop,z0d] at hrun;generalize runL isIn (s.data.toList.drop k)=n at KR hrun hR;have K:=zz fun w=>z14 s k k n n 1 R hR k ((k+n:Nat):Int) rfl rfl (by omega) rfl (by omega) w
 have b34:((s[k].toNat:Int)==34)=false:=z0s (n:=34) h34 (by omega);have KD:=zz fun w=>z2v s[k] w
 rw[hd] at KD;have KL:=zz fun w=>z2d s[k] w
 rw[hl] at KL;obtain⟨q,hq⟩:∃ q,q=k+n:=⟨_,rfl⟩;rw[←hq] at KR K;clear hR h34 hd hl h36 h45 hrun hq;go_enter Tryz.func30,Tryz.ntmps30;go_wp2_with (first | (go_at_call 48;((with_reducible refine(KD.out _).mono ?_));rintro e w' ⟨rfl,rfl⟩) | (go_at_call 50;((with_reducible refine(KL.out _).mono ?_));rintro e w' ⟨rfl,rfl⟩) | (go_at_call 45;((with_reducible refine(KR.out _).mono ?_));rintro e w' ⟨rfl,rfl⟩) | (go_at_call 51;((with_reducible refine(K.out _).mono ?_));rintro e w' hp;obtain⟨t,A,c,rfl,HO,hb⟩:=hp.form;obtain⟨hc,hfz⟩:=bcell hb;have hz:=z1l hb;have HB:=zz hb;clear hb hp));refine bodyPost_ret (v:= .tuple #[.agg #[t.kind,t.word,t.n,.slice A t.parts.length c,t.pl],iI (posR k R),iI (errR R)]) (by simp[results,Tryz.results30,go_sem,hc]) rfl (z2e rfl HO HB.out _ _ _ _ _)
theorem y0j (s:BA) (k:Nat) (hk:k<s.size) (hs:s.size≤4000) (h36:s[k]=36) (w:World):
  Cz 30 #[s,k] w (PostR w k (tokR (s.data.toList.drop k))):=by
 have hd:isDig s[k]=false:=by rw[h36];decide
 have hl:isLow s[k]=false:=by rw[h36];decide
 obtain⟨R,hR⟩:∃ R,R=tokR (s.data.toList.drop k):=⟨_,rfl⟩;rw[←hR]
 replace hR:R=wordR 6 ((s.data.toList.drop (k+1)).take (runL isIn (s.data.toList.drop (k+1)))) (runL isIn (s.data.toList.drop (k+1))+1):=by
  rw[hR]
  conv=>lhs;rw[z0h s k hk]
  unfold tokR;dsimp only;rw[if_neg (by rw[h36];decide),if_neg (by rw[hd];decide),if_neg (by rw[hl];decide),if_pos h36]
 have KR:=zz fun w=>z60 s (k+1) (by omega) (by omega) w
 have hrun:=z1w isIn (s.data.toList.drop (k+1));rw[List.length_drop,z0d] at hrun;generalize runL isIn (s.data.toList.drop (k+1))=n at KR hrun hR;have K:=zz fun w=>z14 s k (k+1) n (n+1) 6 R hR ((k:Int)+1) ((k+1+n:Nat):Int) (by omega) rfl (by omega) (by omega) (by omega) w
 have KR:Hid (∀ w,Cz 45 #[s,iI ((k:Int)+1),.func (.func 52) #[] #[]] w fun e w'=>e= .returned (.int .i64 ((k+1+n:Nat):Int))∧w=w'):=zz fun w=>KR.out w
 have b34:((s[k].toNat:Int)==34)=false:=z0s (n:=34) (by rw[h36];decide) (by omega);have b36:((s[k].toNat:Int)==36)=true:=z08 (n:=36) h36 (by omega);have KD:=zz fun w=>z2v s[k] w
 rw[hd] at KD;have KL:=zz fun w=>z2d s[k] w
 rw[hl] at KL;obtain⟨q,hq⟩:∃ q,q=k+1+n:=⟨_,rfl⟩;rw[←hq] at KR K;clear hR hd hl h36 hrun hq;go_enter Tryz.func30,Tryz.ntmps30;go_wp2_with (first | (go_at_call 48;((with_reducible refine(KD.out _).mono ?_));rintro e w' ⟨rfl,rfl⟩) | (go_at_call 50;((with_reducible refine(KL.out _).mono ?_));rintro e w' ⟨rfl,rfl⟩) | (go_at_call 45;((with_reducible refine(KR.out _).mono ?_));rintro e w' ⟨rfl,rfl⟩) | (go_at_call 51;((with_reducible refine(K.out _).mono ?_));rintro e w' hp;obtain⟨t,A,c,rfl,HO,hb⟩:=hp.form;obtain⟨hc,hfz⟩:=bcell hb;have hz:=z1l hb;have HB:=zz hb;clear hb hp));refine bodyPost_ret (v:= .tuple #[.agg #[t.kind,t.word,t.n,.slice A t.parts.length c,t.pl],iI (posR k R),iI (errR R)]) (by simp[results,Tryz.results30,go_sem,hc]) rfl (z2e rfl HO HB.out _ _ _ _ _)
theorem z8g (s:BA) (k:Nat) (hk:k+1<s.size) (hs:s.size≤4000) (h45:s[k]=45) (hl1:isLow s[k+1]=true) (w:World):
  Cz 30 #[s,k] w (PostR w k (tokR (s.data.toList.drop k))):=by
 have hd:isDig s[k]=false:=by rw[h45];decide
 have hl:isLow s[k]=false:=by rw[h45];decide
 have hlow:lowHead (s.data.toList.drop (k+1))=true:=by rw[z0h s (k+1) hk];exact hl1
 obtain⟨R,hR⟩:∃ R,R=tokR (s.data.toList.drop k):=⟨_,rfl⟩;rw[←hR]
 replace hR:R=wordR 5 ((s.data.toList.drop (k+1)).take (runL isLow (s.data.toList.drop (k+1)))) (runL isLow (s.data.toList.drop (k+1))+1):=by
  rw[hR]
  conv=>lhs;rw[z0h s k (by omega)]
  unfold tokR;dsimp only;rw[if_neg (by rw[h45];decide),if_neg (by rw[hd];decide),if_neg (by rw[hl];decide),if_neg (by rw[h45];decide),if_pos ⟨h45,hlow⟩]
 have KR:=zz fun w=>y62 s (k+1) (by omega) (by omega) w
 have hrun:=z1w isLow (s.data.toList.drop (k+1));rw[List.length_drop,z0d] at hrun;generalize runL isLow (s.data.toList.drop (k+1))=n at KR hrun hR;have K:=zz fun w=>z14 s k (k+1) n (n+1) 5 R hR ((k:Int)+1) ((k+1+n:Nat):Int) (by omega) rfl (by omega) (by omega) (by omega) w
 have KR:Hid (∀ w,Cz 45 #[s,iI ((k:Int)+1),.func (.func 50) #[] #[]] w fun e w'=>e= .returned (.int .i64 ((k+1+n:Nat):Int))∧w=w'):=zz fun w=>KR.out w
 have b34:((s[k].toNat:Int)==34)=false:=z0s (n:=34) (by rw[h45];decide) (by omega);have b36:((s[k].toNat:Int)==36)=false:=z0s (n:=36) (by rw[h45];decide) (by omega);have b45:((s[k].toNat:Int)==45)=true:=z08 (n:=45) h45 (by omega);have KD:=zz fun w=>z2v s[k] w
 rw[hd] at KD;have KL:=zz fun w=>z2d s[k] w
 rw[hl] at KL;have KM:=zz fun w=>z2d s[k+1] w
 rw[hl1] at KM;obtain⟨q,hq⟩:∃ q,q=k+1+n:=⟨_,rfl⟩;rw[←hq] at KR K;clear hR hd hl h45 hrun hq hl1 hlow;go_enter Tryz.func30,Tryz.ntmps30;go_wp2_with (first | (go_at_call 48;((with_reducible refine(KD.out _).mono ?_));rintro e w' ⟨rfl,rfl⟩) | (go_at_call 50;((with_reducible refine(KL.out _).mono ?_));rintro e w' ⟨rfl,rfl⟩) | (go_at_call 50;((with_reducible refine(KM.out _).mono ?_));rintro e w' ⟨rfl,rfl⟩) | (go_at_call 45;((with_reducible refine(KR.out _).mono ?_));rintro e w' ⟨rfl,rfl⟩) | (go_at_call 51;((with_reducible refine(K.out _).mono ?_));rintro e w' hp;obtain⟨t,A,c,rfl,HO,hb⟩:=hp.form;obtain⟨hc,hfz⟩:=bcell hb;have hz:=z1l hb;have HB:=zz hb;clear hb hp));refine bodyPost_ret (v:= .tuple #[.agg #[t.kind,t.word,t.n,.slice A t.parts.length c,t.pl],iI (posR k R),iI (errR R)]) (by simp[results,Tryz.results30,go_sem,hc]) rfl (z2e rfl HO HB.out _ _ _ _ _)
theorem z8k (s:BA) (k:Nat) (hk:k<s.size) (hs:s.size≤4000) (h34:s[k]≠34) (hd:isDig s[k]=false) (hl:isLow s[k]=false) (h36:s[k]≠36) (h45:s[k]≠45) (w:World):
  Cz 30 #[s,k] w (PostR w k (tokR (s.data.toList.drop k))):=by
 have hno:¬ (s[k]=45∧lowHead (s.data.toList.drop (k+1))=true):=fun h=>h45 h.1
 obtain⟨R,hR⟩:∃ R,R=tokR (s.data.toList.drop k):=⟨_,rfl⟩;rw[←hR]
 replace hR:R=wordR 4 ((s.data.toList.drop k).take (signL (s.data.toList.drop k))) (signL (s.data.toList.drop k)):=by
  rw[hR]
  conv=>lhs;rw[z0h s k hk]
  unfold tokR;dsimp only;rw[if_neg h34,if_neg (by rw[hd];decide),if_neg (by rw[hl];decide),if_neg h36,if_neg hno,←z0h s k hk]
 have KR:=zz fun w=>z8d s k hk (by omega) w
 have hrun:=z9q (s.data.toList.drop k);rw[List.length_drop,z0d] at hrun;generalize signL (s.data.toList.drop k)=n at KR hrun hR;have K:=zz fun w=>z14 s k k n n 4 R hR k ((k+n:Nat):Int) rfl rfl (by omega) rfl (by omega) w
 have b34:((s[k].toNat:Int)==34)=false:=z0s (n:=34) h34 (by omega);have b36:((s[k].toNat:Int)==36)=false:=z0s (n:=36) h36 (by omega);have KD:=zz fun w=>z2v s[k] w
 rw[hd] at KD;have KL:=zz fun w=>z2d s[k] w
 rw[hl] at KL;obtain⟨q,hq⟩:∃ q,q=k+n:=⟨_,rfl⟩;rw[←hq] at KR K;have b45:((s[k].toNat:Int)==45)=false:=z0s (n:=45) h45 (by omega);clear hR hd hl h34 h36 h45 hrun hq hno;go_enter Tryz.func30,Tryz.ntmps30;go_wp2_with (first | (go_at_call 48;((with_reducible refine(KD.out _).mono ?_));rintro e w' ⟨rfl,rfl⟩) | (go_at_call 50;((with_reducible refine(KL.out _).mono ?_));rintro e w' ⟨rfl,rfl⟩) | (go_at_call 53;((with_reducible refine(KR.out _).mono ?_));rintro e w' ⟨rfl,rfl⟩) | (go_at_call 51;((with_reducible refine(K.out _).mono ?_));rintro e w' hp;obtain⟨t,A,c,rfl,HO,hb⟩:=hp.form;obtain⟨hc,hfz⟩:=bcell hb;have hz:=z1l hb;have HB:=zz hb;clear hb hp));refine bodyPost_ret (v:= .tuple #[.agg #[t.kind,t.word,t.n,.slice A t.parts.length c,t.pl],iI (posR k R),iI (errR R)]) (by simp[results,Tryz.results30,go_sem,hc]) rfl (z2e rfl HO HB.out _ _ _ _ _)
theorem z8m (s:BA) (k:Nat) (hk:k<s.size) (hs:s.size≤4000) (h45:s[k]=45) (hx:∀ h:k+1<s.size,isLow s[k+1]=false) (w:World):
  Cz 30 #[s,k] w (PostR w k (tokR (s.data.toList.drop k))):=by
 have h34:s[k]≠34:=by rw[h45];decide
 have h36:s[k]≠36:=by rw[h45];decide
 have hd:isDig s[k]=false:=by rw[h45];decide
 have hl:isLow s[k]=false:=by rw[h45];decide
 have hno:¬ (s[k]=45∧lowHead (s.data.toList.drop (k+1))=true):=by
  rintro⟨_,h⟩;by_cases a:k+1<s.size
  ·rw[z0h s (k+1) a] at h
   have:=hx a;rw[show lowHead (s[k+1]::s.data.toList.drop (k+1+1))=isLow s[k+1] from rfl,this] at h
   cases h
  ·rw[z07 s (k+1) a] at h;cases h
 obtain⟨R,hR⟩:∃ R,R=tokR (s.data.toList.drop k):=⟨_,rfl⟩;rw[←hR]
 replace hR:R=wordR 4 ((s.data.toList.drop k).take (signL (s.data.toList.drop k))) (signL (s.data.toList.drop k)):=by
  rw[hR]
  conv=>lhs;rw[z0h s k hk]
  unfold tokR;dsimp only;rw[if_neg h34,if_neg (by rw[hd];decide),if_neg (by rw[hl];decide),if_neg h36,if_neg hno,←z0h s k hk]
 have KR:=zz fun w=>z8d s k hk (by omega) w
 have hrun:=z9q (s.data.toList.drop k);rw[List.length_drop,z0d] at hrun;generalize signL (s.data.toList.drop k)=n at KR hrun hR;have K:=zz fun w=>z14 s k k n n 4 R hR k ((k+n:Nat):Int) rfl rfl (by omega) rfl (by omega) w
 have b34:((s[k].toNat:Int)==34)=false:=z0s (n:=34) h34 (by omega);have b36:((s[k].toNat:Int)==36)=false:=z0s (n:=36) h36 (by omega);have KD:=zz fun w=>z2v s[k] w
 rw[hd] at KD;have KL:=zz fun w=>z2d s[k] w
 rw[hl] at KL;obtain⟨q,hq⟩:∃ q,q=k+n:=⟨_,rfl⟩;rw[←hq] at KR K;have b45:((s[k].toNat:Int)==45)=true:=z08 (n:=45) h45 (by omega);by_cases a:k+1<s.size
 ·have KM:=zz fun w=>z2d s[k+1] w
  rw[hx a] at KM;clear hR hd hl h34 h36 h45 hrun hq hno hx;go_enter Tryz.func30,Tryz.ntmps30;go_wp2_with (first | (go_at_call 48;((with_reducible refine(KD.out _).mono ?_));rintro e w' ⟨rfl,rfl⟩) | (go_at_call 50;((with_reducible refine(KL.out _).mono ?_));rintro e w' ⟨rfl,rfl⟩) | (go_at_call 50;((with_reducible refine(KM.out _).mono ?_));rintro e w' ⟨rfl,rfl⟩) | (go_at_call 53;((with_reducible refine(KR.out _).mono ?_));rintro e w' ⟨rfl,rfl⟩) | (go_at_call 51;((with_reducible refine(K.out _).mono ?_));rintro e w' hp;obtain⟨t,A,c,rfl,HO,hb⟩:=hp.form;obtain⟨hc,hfz⟩:=bcell hb;have hz:=z1l hb;have HB:=zz hb;clear hb hp));refine bodyPost_ret (v:= .tuple #[.agg #[t.kind,t.word,t.n,.slice A t.parts.length c,t.pl],iI (posR k R),iI (errR R)]) (by simp[results,Tryz.results30,go_sem,hc]) rfl (z2e rfl HO HB.out _ _ _ _ _)
 ·clear hR hd hl h34 h36 h45 hrun hq hno hx
  go_enter Tryz.func30,Tryz.ntmps30;go_wp2_with (first | (go_at_call 48;((with_reducible refine(KD.out _).mono ?_));rintro e w' ⟨rfl,rfl⟩) | (go_at_call 50;((with_reducible refine(KL.out _).mono ?_));rintro e w' ⟨rfl,rfl⟩) | (go_at_call 53;((with_reducible refine(KR.out _).mono ?_));rintro e w' ⟨rfl,rfl⟩) | (go_at_call 51;((with_reducible refine(K.out _).mono ?_));rintro e w' hp;obtain⟨t,A,c,rfl,HO,hb⟩:=hp.form;obtain⟨hc,hfz⟩:=bcell hb;have hz:=z1l hb;have HB:=zz hb;clear hb hp));refine bodyPost_ret (v:= .tuple #[.agg #[t.kind,t.word,t.n,.slice A t.parts.length c,t.pl],iI (posR k R),iI (errR R)]) (by simp[results,Tryz.results30,go_sem,hc]) rfl (z2e rfl HO HB.out _ _ _ _ _)
theorem z5g (s:BA) (k:Nat) (hk:k<s.size) (hs:s.size≤4000) (w:World) (hG:Given w):
  Cz 30 #[s,k] w (PostR w k (tokR (s.data.toList.drop k))):=by
 by_cases h34:s[k]=34
 ·exact z8l s k hk hs h34 w
 ·by_cases hd:isDig s[k]=true
  ·exact z9i s k hk hs hd h34 w hG
  ·by_cases hl:isLow s[k]=true
   ·exact z8j s k hk hs hl w
   ·by_cases h36:s[k]=36
    ·exact y0j s k hk hs h36 w
    ·by_cases h45:s[k]=45
     ·by_cases hx:∃ h:k+1<s.size,isLow s[k+1]=true
      ·obtain⟨a,b⟩:=hx
       exact z8g s k a hs h45 b w
      ·exact z8m s k hk hs h45 (fun a=>Bool.eq_false_iff.2 fun b=>hx ⟨a,b⟩) w
     ·exact z8k s k hk hs h34 (Bool.eq_false_iff.2 hd) (Bool.eq_false_iff.2 hl) h36 h45 w
abbrev Tv:=Tok × Value
def cellsT (l:List Tv):List Value:=l.flatMap fun x=>[x.1.kind,x.1.word,x.1.n,x.2,x.1.pl]
theorem z95 (a b:List Tv):cellsT (a++b)=cellsT a++cellsT b:=by simp[cellsT]
theorem z7d (p:Tv) (r:List Tv):cellsT (p::r)= .int .i64 p.1.kind:: .string ⟨p.1.word.toArray⟩:: .int .i64 p.1.n::p.2:: .int .i64 p.1.pl::cellsT r:=rfl
theorem infoT:(Tryz.prog.info? 53).map (fun i=>(i.zero,i.size,i.bytes))=some (some (.agg #[oZ,oS,oZ,(),oZ]),5,64):=by kernel_rfl
theorem z9c (w:World) (o:Obj) (T:TypeId) (cs:Array Value) (j:Nat) (u:Value) (h:cs.toList[j]?=some u):((w.alloc o).alloc (.cells cs T)).cell? ((⟨w.heap.size+1,0,none⟩:Addr).add j)=some u:=by
 have e:(w.alloc o).heap.size=w.heap.size+1:=by simp
 rw[←e];exact z0k (w.alloc o) T cs j u h
theorem z4c (a b c:Int) (W:BA) (A:OA) (n m:Nat):∀ u∈[Value.int .i64 a,W,b,.slice A n m,c],u.oneCell'=true:=by
 intro u hu;simp only[List.mem_cons,List.not_mem_nil,or_false] at hu
 rcases hu with rfl | rfl | rfl | rfl | rfl <;> rfl
structure Tks (B:Nat) (w0 w:World) (v:Value) (q:List Tv):Prop where
 row:w.ownsRow B 53 5 v q.length (cellsT q)
 parts:∀ x∈q,OwnP B w x.2 x.1.parts
 below:Below B w0 w
 size:B≤w.heap.size
theorem Tks.nil (w:World):Tks w.heap.size w w (.slice none 0 0) []:=⟨World.ownsRow_nil _ _ _ _,by simp,Below.refl _ _,Nat.le_refl _⟩
theorem Tks.none_ {B:Nat} {w0 w:World} {v:Value} {q:List Tv} (h:Tks B w0 w v q):Tks B w0 w (.slice none 0 0) []:=⟨World.ownsRow_nil _ _ _ _,by simp,h.below,h.size⟩
theorem Tks.alloc {B:Nat} {w0 w:World} {v:Value} {q:List Tv} (h:Tks B w0 w v q) (o:Obj):Tks B w0 (w.alloc o) v q:=
 ⟨h.row.alloc o,fun x hx=>(h.parts x hx).alloc o,h.below.alloc h.size o,by simp;have:=h.size;omega⟩
theorem Tks.beyond {B:Nat} {w0 w w':World} {v:Value} {q:List Tv} (h:Tks B w0 w v q) (hb:Below w.heap.size w w'):Tks B w0 w' v q:=
 ⟨z25 h.row hb,fun x hx=>z25 (h.parts x hx) hb,h.below.trans (hb.mono h.size),Nat.le_trans h.size hb.size⟩
theorem Tks.token {B:Nat} {w0 w w':World} {v v' u:Value} {q:List Tv} {g:Tok} (h:Tks B w0 w v q) (hu:OwnP B w u g.parts)
  (ho:w'.ownsRow B 53 5 v' (q.length+1) (cellsT q++[.int .i64 g.kind,.string ⟨g.word.toArray⟩,.int .i64 g.n,u,.int .i64 g.pl])) (hg:w.grownBy w' v.ownBlock):Tks B w0 w' v' (q++[(g,u)]):=by
 refine⟨by rw[z95,List.length_append];exact ho,fun x hx=>?_,h.below.grown hg h.size (fun k hk=>(h.row.lt k hk).1),Nat.le_trans h.size hg.size⟩
 rcases List.mem_append.1 hx with hx | hx
 ·exact(h.parts x hx).kept hg (y1x (h.parts x hx) h.row (by decide))
 ·rw[List.mem_singleton] at hx
  subst hx;exact hu.kept hg (y1x hu h.row (by decide))
def PostT (w0:World) (R:Option (List Tok) × Nat × Int) (e:Ending) (w':World):Prop:=
 ∃ (v:Value) (l:List Tv),e= .returned (.tuple #[v,R.2.1,R.2.2])∧Tks w0.heap.size w0 w' v l∧l.map (·.1)=R.1.getD []
def LoopT (s:BA) (w0:World) (R:Option (List Tok) × Nat × Int) (v a:Value) (w:World):Prop:=
 ∃ (k:Nat) (l:List Tv),k≤s.size∧a= .int .i64 k∧goT s.data.toList k (l.map (·.1))=R∧Tks w0.heap.size w0 w v l∧l.length≤k
def TBad (w0:World) (p:Nat) (x:Int) (e:Ending) (w':World):Prop:=
 ∃ (t:Tok) (A:OA) (c:Nat),e= .returned (.tuple #[.agg #[t.kind,t.word,t.n,.slice A t.parts.length c,t.pl],p,x])∧Below w0.heap.size w0 w'
def TOk (w0:World) (p:Nat) (t:Tok) (e:Ending) (w':World):Prop:=
 ∃ (A:OA) (c:Nat),e= .returned (.tuple #[.agg #[t.kind,t.word,t.n,.slice A t.parts.length c,t.pl],p,oZ])∧OwnP w0.heap.size w' (.slice A t.parts.length c) t.parts∧Below w0.heap.size w0 w'
theorem x4w (s:BA) (k q:Nat) (x:Int) (hk:k<s.size) (hs:s.size≤4000) (h:tokR (s.data.toList.drop k)= .bad q x) (w:World) (hG:Given w):Cz 30 #[s,k] w (TBad w (k+q) x):=by
 have:=z5g s k hk hs w hG;rw[h] at this
 exact this.mono fun e w' hp=>by
  obtain⟨t,A,c,he,_,hb⟩:=hp.form;exact⟨t,A,c,he,hb⟩
theorem x30 (s:BA) (k q:Nat) (t:Tok) (hk:k<s.size) (hs:s.size≤4000) (h:tokR (s.data.toList.drop k)= .ok t q) (w:World) (hG:Given w):Cz 30 #[s,k] w (TOk w (k+q) t):=by
 have:=z5g s k hk hs w hG;rw[h] at this
 exact this.mono fun e w' hp=>by
  obtain⟨t',A,c,he,HO,hb⟩:=hp.form;obtain rfl:=HO.out.2 t q rfl;exact⟨A,c,he,HO.out.1,hb⟩
theorem y1n (s:BA) (k:Nat) (i:Int) (N:Nat) (hi:i=k) (hN:N=behind s.data.toList k) (hk:k≤s.size) (hs:s.size≤1000000) (w:World):
  Cz 29 #[s,i] w fun e w'=>e= .returned (.int .i64 N)∧w=w':=by
 subst hi hN;exact y5v s k hk hs w
theorem x19 (s:BA) (hs:s.size≤4000) (w:World) (hG:Given w):Cz 15 #[s] w (PostT w (scan s.data.toList)):=by
 by_cases h2000:2000<s.size
 ·have hR:scan s.data.toList=(none,2000,2):=by unfold scan;rw[if_pos (by rw[z0d];exact h2000)]
  rw[hR];clear hR;go_enter Tryz.func15,Tryz.ntmps15;go_wp2
  go_ret3
  exact⟨_,[],rfl,Tks.nil w,rfl⟩
 ·obtain⟨R,hR⟩:∃ R,R=goT s.data.toList (behind s.data.toList 0) []:=⟨_,rfl⟩
  have hsc:scan s.data.toList=R:=by unfold scan;rw[if_neg (by rw[z0d];exact h2000),hR]
  rw[hsc];have hb0:=z7v s.data.toList 0 (Nat.zero_le _);rw[z0d] at hb0;have K0:Hid (∀ w,Cz 29 #[s,oZ] w fun e w'=>e= .returned (.int .i64 (behind s.data.toList 0))∧w=w'):=zz fun w=>y1n s 0 0 _ rfl rfl (by omega) (by omega) w
  generalize behind s.data.toList 0=B0 at K0 hR hb0;have HR:=zz hR.symm;obtain⟨i0,hi0,hz0,hz1,hz2⟩:=info_parts infoT;have HG:=zz hG;clear hR hsc hG;go_enter Tryz.func15,Tryz.ntmps15;go_wp2_with (go_at_call 29;((with_reducible refine(K0.out _).mono ?_));rintro e w' ⟨rfl,rfl⟩)
  go_loopw [5,6] (fun v a wr=>LoopT s w R v a wr) (fun _ a _=>s.size - (intOf a).toNat)
  case atStart=>exact⟨B0,[],hb0,rfl,HR.out,Tks.nil w,by simp⟩
  case round=>
   obtain⟨k,l,hk,rfl,hg,hT,hl⟩:=hrel;have HGk:=zz hg;have HT:=zz hT;have HGw:Hid (Given wr):=zz (HG.out.below hT.below);clear hg hT;by_cases a:k<s.size
   ·rcases hp:tokR (s.data.toList.drop k) with ⟨q,x⟩ | ⟨t,q⟩
    ·have HX:Hid (R=(none,k+q,x)):=zz (by rw[←HGk.out,z9v _ (by rw[z0d];exact a) hp])
     have K:=zz (x4w s k q x a hs hp wr HGw.out)
     have hx:(x != 0)=true:=by
      have:=(z94 hp).2
      rcases this with h | h <;> (subst h;rfl)
     obtain⟨p,hpq⟩:∃ p,p=k+q:=⟨_,rfl⟩;rw[←hpq] at K HX;clear hp hpq;go_wp2_with (go_at_call 30;((with_reducible refine(K.out).mono ?_));rintro e w1 ⟨t,A,c,rfl,hb⟩;have HB:=zz hb;clear hb)
     go_ret3
     rw[HX.out];exact⟨_,[],rfl,((HT.out.beyond HB.out).alloc _).none_,rfl⟩
    ·obtain⟨q0,q1,_⟩:=z7k hp
     rw[List.length_drop,z0d] at q1;have HX:Hid (goT s.data.toList (behind s.data.toList (k+q)) (l.map (·.1)++[withPl t k])=R):=zz (by rw[←HGk.out,z2i _ (by rw[z0d];exact a) hp]);have K:=zz (x30 s k q t a hs hp wr HGw.out);obtain⟨p,hpq⟩:∃ p,p=k+q:=⟨_,rfl⟩;have KB:=zz fun w=>y1n s (k+q) p _ (by omega) rfl (by omega) (by omega) w
     have n1:=z5i s.data.toList (k+q);have n2:=z7v s.data.toList (k+q) (by rw[z0d];omega);rw[z0d] at n2;generalize behind s.data.toList (k+q)=N at KB HX n1 n2;rw[←hpq] at K;have n3:k<N:=by omega
     clear hp hpq n1 q0 q1;go_wp2_with (first | (go_at_call 30;((with_reducible refine(K.out).mono ?_));rintro e w1 ⟨A,c,rfl,ho,hb⟩;have HB:=zz hb;have HO:=zz ho;clear hb ho) | (go_at_call 29;((with_reducible refine(KB.out _).mono ?_));rintro e w' ⟨rfl,rfl⟩) | (at_builtin;refine wpList_append_own _ rfl (.tmp 32) (.tmp 34) 45 rfl w.heap.size 53 i0 (.agg #[oZ,oS,oZ,(),oZ]) 5 64 Tryz.underlying45 hi0 hz0 hz1 hz2 rfl (by decide) _ _ _ rfl (((HT.out.beyond HB.out).alloc _).alloc _).row ⟨w1.heap.size+1,0,none⟩ 1 1 [t.kind,t.word,t.n,.slice A t.parts.length c,k] rfl rfl (fun j u hu=>z9c w1 (.cells #[t.kind,t.word,t.n,.slice A t.parts.length c,k] 53) 53 #[t.kind,t.word,t.n,.slice A t.parts.length c,k] j u hu) (z4c _ _ _ _ _ _ _) (by unfold maxLen;omega) (by omega) (((HT.out.beyond HB.out).alloc _).alloc _).size ?_;intro v2 w3 hown' hgrow _))
     go_roundw
     case rel=>
      refine⟨N,l++[(withPl t k,.slice A t.parts.length c)],n2,rfl,by rw[List.map_append];exact HX.out,(((HT.out.beyond HB.out).alloc _).alloc _).token (g:=withPl t k) (u:= .slice A t.parts.length c) ?_ hown' hgrow,by rw[List.length_append];simp;omega⟩;exact(((HO.out.mono HT.out.size).alloc _).alloc _)
     case measure=>simp[intOf];omega
   ·have HX:Hid (R=(some (l.map (·.1)),0,0)):=zz (by rw[←HGk.out,z54 _ (by rw[z0d];exact a)])
    go_wp2
    go_ret3
    rw[HX.out];exact⟨_,l,rfl,HT.out,rfl⟩
abbrev tokA (t:Tok) (A:OA) (c:Nat):Value:= .agg #[t.kind,t.word,t.n,.slice A t.parts.length c,t.pl]
structure FitT (t:Tok):Prop where
 word:t.word.length≤100000
 n: -9223372036854775808≤t.n∧t.n≤9223372036854775807
 parts:t.parts.length≤100000
 names:∀ p∈t.parts,p.1.length≤100000
 texts:∀ p∈t.parts,p.2.length≤100000
 print:(print t.parts).length≤100000
theorem y8t {m:Nat} (h:m=0):((m:Int)==0)=true∧(m==0)=true:=by subst h;exact⟨rfl,rfl⟩
theorem y9s {m:Nat} (h:¬ m=0):((m:Int)==0)=false∧(m==0)=false:=by
 constructor
 ·simp;omega
 ·simpa using h
theorem okT_2 {t:Tok} (h:t.kind=2):okT t=(t.word.isEmpty && decide (0≤t.n) && t.parts.isEmpty):=by unfold okT;rw[if_pos h]
theorem okT_3 {t:Tok} (h:t.kind=3):okT t=(t.word.isEmpty && decide (t.n=0) && may false t.parts):=by unfold okT;rw[if_neg (by omega),if_pos h]
theorem okT_x {t:Tok} (h:¬ t.kind=2) (h3:¬ t.kind=3):okT t=(mayW t.kind t.word && decide (t.n=0) && t.parts.isEmpty):=by unfold okT;rw[if_neg h,if_neg h3]
theorem y8w (l:List Pt):l.isEmpty=decide (l.length=0):=by cases l <;> simp
theorem y8m (t:Tok) (A:OA) (c:Nat) (w:World) (h:Rd w.heap.size w A t.parts.length t.parts) (hf:FitT t):
  Cz 86 #[tokA t A c] w fun e w'=>e= .returned (.bool (okT t))∧Below w.heap.size w w':=by
 obtain⟨v,hv⟩:∃ v,v=okT t:=⟨_,rfl⟩;rw[←hv];unfold tokA;obtain⟨W,hW⟩:∃ W:BA,W=⟨t.word.toArray⟩:=⟨_,rfl⟩;have hWs:W.size≤100000:=by rw[←z0d,hW];exact hf.word
 have KH:=zz fun w=>z7c t.kind W (by omega) w
 have hWd:W.data.toList=t.word:=by rw[hW]
 rw[hWd] at KH;have KM:Hid (∀ w',Below w.heap.size w w'→Cz 80 #[.slice A t.parts.length c] w' fun e w2=>e= .returned (.bool (may false t.parts))∧Below w'.heap.size w' w2):=zz fun w' hb=>y0b A _ c t.parts w' (h.onto hb) (by have:=hf.parts;omega) (fun p hp=>by have:=hf.names p hp;omega)
 rw[←hW];obtain⟨m,hm⟩:∃ m,m=t.parts.length:=⟨_,rfl⟩;have hpe:=y8w t.parts;rw[←hm] at KM hpe ⊢;by_cases k2:t.kind=2
 ·rw[okT_2 k2,hpe] at hv
  rw[k2];by_cases e1:t.word=[]
  ·obtain⟨n1,n2⟩:=z7q hW e1
   by_cases e2:0≤t.n
   ·by_cases e3:m=0
    ·obtain⟨b1,b2⟩:=y8t e3
     have HV:Hid (v=true):=zz (by rw[hv];simp[e1,e2,e3]);clear hv hf h k2 hm hW hWd hWs hpe e1 e3;go_enter Tryz.func86,Tryz.ntmps86;go_wp2;go_ret;exact⟨z0c HV.out.symm,bR.alloc nR _⟩
    ·obtain⟨b1,b2⟩:=y9s e3
     have HV:Hid (v=false):=zz (by rw[hv];simp[e3]);clear hv hf h k2 hm hW hWd hWs hpe e1 e3;go_enter Tryz.func86,Tryz.ntmps86;go_wp2;go_ret;exact⟨z0c HV.out.symm,bR.alloc nR _⟩
   ·have HV:Hid (v=false):=zz (by rw[hv];simp[e2])
    clear hv hf h k2 hm hW hWd hWs hpe e1;go_enter Tryz.func86,Tryz.ntmps86;go_wp2;go_ret;exact⟨z0c HV.out.symm,bR.alloc nR _⟩
  ·obtain⟨n1,n2⟩:=z4r hW e1
   have HV:Hid (v=false):=zz (by rw[hv];simp[e1]);clear hv hf h k2 hm hW hWd hWs hpe e1;go_enter Tryz.func86,Tryz.ntmps86;go_wp2;go_ret;exact⟨z0c HV.out.symm,bR.alloc nR _⟩
 ·have bk2:(t.kind==2)=false:=by simpa using k2
  by_cases k3:t.kind=3
  ·rw[okT_3 k3] at hv
   rw[k3];by_cases e1:t.word=[]
   ·obtain⟨n1,n2⟩:=z7q hW e1
    by_cases e2:t.n=0
    ·have bn:(t.n==0)=true:=by simpa using e2
     have HV:Hid (v=may false t.parts):=zz (by rw[hv];simp[e1,e2]);generalize may false t.parts=y at KM HV;clear hv hf h k2 k3 bk2 hm hW hWd hWs hpe e1;clear e2;go_enter Tryz.func86,Tryz.ntmps86;go_wp2_with (go_at_call 80;((with_reducible refine(KM.out _ (bR.alloc nR _)).mono ?_));rintro e w' ⟨rfl,hb⟩);go_ret;exact⟨z0c HV.out.symm,(bR.alloc nR _).trans (hb.mono (by simp))⟩
    ·have bn:(t.n==0)=false:=by simpa using e2
     have HV:Hid (v=false):=zz (by rw[hv];simp[e2]);clear hv hf h k2 k3 bk2 hm hW hWd hWs hpe e1;clear e2;go_enter Tryz.func86,Tryz.ntmps86;go_wp2;go_ret;exact⟨z0c HV.out.symm,bR.alloc nR _⟩
   ·obtain⟨n1,n2⟩:=z4r hW e1
    have HV:Hid (v=false):=zz (by rw[hv];simp[e1]);clear hv hf h k2 k3 bk2 hm hW hWd hWs hpe e1;go_enter Tryz.func86,Tryz.ntmps86;go_wp2;go_ret;exact⟨z0c HV.out.symm,bR.alloc nR _⟩
  ·have bk3:(t.kind==3)=false:=by simpa using k3
   rw[okT_x k2 k3,hpe] at hv;generalize mayW t.kind t.word=x at KH hv
   cases x
   ·have HV:Hid (v=false):=zz (by rw[hv];rfl)
    clear hv hf h k2 k3 hm hW hWd hWs hpe;go_enter Tryz.func86,Tryz.ntmps86;go_wp2_with (go_at_call 97;((with_reducible refine(KH.out _).mono ?_));rintro e w' ⟨rfl,rfl⟩);go_ret;exact⟨z0c HV.out.symm,bR.alloc nR _⟩
   ·by_cases e2:t.n=0
    ·have bn:(t.n==0)=true:=by simpa using e2
     by_cases e3:m=0
     ·obtain⟨b1,b2⟩:=y8t e3
      have HV:Hid (v=true):=zz (by rw[hv];simp[e2,e3]);clear hv hf h k2 k3 hm hW hWd hWs hpe e2 e3;go_enter Tryz.func86,Tryz.ntmps86;go_wp2_with (go_at_call 97;((with_reducible refine(KH.out _).mono ?_));rintro e w' ⟨rfl,rfl⟩);go_ret;exact⟨z0c HV.out.symm,bR.alloc nR _⟩
     ·obtain⟨b1,b2⟩:=y9s e3
      have HV:Hid (v=false):=zz (by rw[hv];simp[e3]);clear hv hf h k2 k3 hm hW hWd hWs hpe e2 e3;go_enter Tryz.func86,Tryz.ntmps86;go_wp2_with (go_at_call 97;((with_reducible refine(KH.out _).mono ?_));rintro e w' ⟨rfl,rfl⟩);go_ret;exact⟨z0c HV.out.symm,bR.alloc nR _⟩
    ·have bn:(t.n==0)=false:=by simpa using e2
     have HV:Hid (v=false):=zz (by rw[hv];simp[e2]);clear hv hf h k2 k3 hm hW hWd hWs hpe e2;go_enter Tryz.func86,Tryz.ntmps86;go_wp2_with (go_at_call 97;((with_reducible refine(KH.out _).mono ?_));rintro e w' ⟨rfl,rfl⟩);go_ret;exact⟨z0c HV.out.symm,bR.alloc nR _⟩
def textB (t:Tok):BA:=if okT t then ⟨(textT t).toArray⟩ else ⟨#[]⟩
def errB (t:Tok):Int:=if okT t then 0 else 5
theorem x28 {t:Tok} (h:t.kind=2):textT t=Lib.itoa t.n:=by unfold textT;rw[if_pos h]
theorem x34 {t:Tok} (h:t.kind=3):textT t=print t.parts:=by unfold textT;rw[if_neg (by omega),if_pos h]
theorem x31 {t:Tok} (h:t.kind=5):textT t=45::t.word:=by unfold textT;rw[if_neg (by omega),if_neg (by omega),if_pos h]
theorem x26 {t:Tok} (h:t.kind=6):textT t=36::t.word:=by unfold textT;rw[if_neg (by omega),if_neg (by omega),if_neg (by omega),if_pos h]
theorem x3j {t:Tok} (h2:¬ t.kind=2) (h3:¬ t.kind=3) (h5:¬ t.kind=5) (h6:¬ t.kind=6):textT t=t.word:=by unfold textT;rw[if_neg h2,if_neg h3,if_neg h5,if_neg h6]
theorem y4b (t:Tok) (A:OA) (c:Nat) (w:World) (h:Rd w.heap.size w A t.parts.length t.parts) (hf:FitT t) (hG:Given w):
  Cz 42 #[tokA t A c] w fun e w'=>e= .returned (.tuple #[.string (textB t),iI (errB t)])∧Below w.heap.size w w':=by
 have HG:=zz hG;have KB:Hid (∀ w',Below w.heap.size w w'→Cz 86 #[tokA t A c] w' fun e w2=>e= .returned (.bool (okT t))∧Below w'.heap.size w' w2):=zz fun w' hb=>y8m t A c w' (h.onto hb) hf
 obtain⟨T,hT⟩:∃ T,T=textB t:=⟨_,rfl⟩;rw[←hT];unfold textB at hT;unfold errB;have hok:okT t=true→okT t=true:=fun h=>h
 unfold tokA at KB ⊢;obtain⟨W,hW⟩:∃ W:BA,W=⟨t.word.toArray⟩:=⟨_,rfl⟩;have hWs:W.size≤100000:=by rw[←z0d,hW];exact hf.word
 rw[←hW] at KB ⊢
 have KP:okT t=true→t.kind=3→Hid (∀ w',Below w.heap.size w w'→Cz 88 #[.slice A t.parts.length c] w' fun e w2=>e= .returned (.tuple #[.string ⟨(print t.parts).toArray⟩,oZ])∧Below w'.heap.size w' w2):=fun ho h3=>zz fun w' hb=>
  y69 A _ c t.parts w' (h.onto hb) (by have:=hf.parts;omega) (fun p hp=>by have:=hf.names p hp;omega) (fun p hp=>by have:=hf.texts p hp;omega) (by have:=hf.print;omega) (by rw[okT_3 h3] at ho;simp at ho;exact ho.2)
 obtain⟨m,hm⟩:∃ m,m=t.parts.length:=⟨_,rfl⟩;rw[←hm] at KB KP ⊢;generalize okT t=b at KB hT hok KP ⊢
 cases b
 ·rw[if_neg (by decide)] at hT
  rw[if_neg (by decide)];have HT:=zz hT;clear hT hok KP hW hm h hf hG;go_enter Tryz.func42,Tryz.ntmps42;go_wp2_with (go_at_call 86;((with_reducible refine(KB.out _ (bR.alloc nR _)).mono ?_));rintro e w1 ⟨rfl,hb⟩)
  go_ret2
  exact⟨y2q HT.out.symm,(bR.alloc nR _).trans (hb.mono (by simp))⟩
 ·rw[if_pos rfl] at hT
  rw[if_pos rfl];by_cases k2:t.kind=2
  ·rw[x28 k2] at hT
   have K:=zz fun w hg=>y9w t.n hf.n w hg
   rw[←hT] at K;rw[k2] at KB ⊢;clear hT hok KP hW hm h hf hG k2;go_enter Tryz.func42,Tryz.ntmps42;go_wp2_with (first | (go_at_call 86;((with_reducible refine(KB.out _ (bR.alloc nR _)).mono ?_));rintro e w1 ⟨rfl,hb⟩;obtain⟨hc,hfz⟩:=bcell hb;have hz:=z1l hb;have HB1:=zz (((Below.refl w.heap.size w).alloc nR _).trans (hb.mono (by simp)));clear hb) | (go_at_call 87;((with_reducible refine(K.out _ (HG.out.below HB1.out)).mono ?_));rintro e w2 ⟨rfl,hb2⟩))
   go_ret2
   exact⟨rfl,HB1.out.trans (hb2.mono (HB1.out.size))⟩
  ·have b2:(t.kind==2)=false:=by simpa using k2
   by_cases k3:t.kind=3
   ·rw[x34 k3] at hT
    have K:=KP rfl k3;rw[←hT] at K;rw[k3] at KB b2 ⊢;clear hT hok KP hW hm h hf hG k2 k3;go_enter Tryz.func42,Tryz.ntmps42;go_wp2_with (first | (go_at_call 86;((with_reducible refine(KB.out _ (bR.alloc nR _)).mono ?_));rintro e w1 ⟨rfl,hb⟩;obtain⟨hc,hfz⟩:=bcell hb;have hz:=z1l hb;have HB1:=zz (((Below.refl w.heap.size w).alloc nR _).trans (hb.mono (by simp)));clear hb) | (go_at_call 88;((with_reducible refine(K.out _ HB1.out).mono ?_));rintro e w2 ⟨rfl,hb2⟩))
    go_ret2
    exact⟨rfl,HB1.out.trans (hb2.mono (HB1.out.size))⟩
   ·have b3:(t.kind==3)=false:=by simpa using k3
    by_cases k5:t.kind=5
    ·rw[x31 k5] at hT
     have HT:Hid (T=⟨#[45]⟩++W):=zz (by rw[hT];exact(ba_eq _ _ (z6j ⟨#[45]⟩ W [45] t.word rfl (by rw[hW]))).symm);rw[k5] at KB b2 b3 ⊢;clear hT hok KP hW hm h hf hG k2 k3 k5;go_enter Tryz.func42,Tryz.ntmps42;go_wp2_with (go_at_call 86;((with_reducible refine(KB.out _ (bR.alloc nR _)).mono ?_));rintro e w1 ⟨rfl,hb⟩;obtain⟨hc,hfz⟩:=bcell hb;have hz:=z1l hb;have HB1:=zz (((Below.refl w.heap.size w).alloc nR _).trans (hb.mono (by simp)));clear hb)
     go_ret2
     exact⟨y2q HT.out.symm,HB1.out⟩
    ·have b5:(t.kind==5)=false:=by simpa using k5
     by_cases k6:t.kind=6
     ·rw[x26 k6] at hT
      have HT:Hid (T=⟨#[36]⟩++W):=zz (by rw[hT];exact(ba_eq _ _ (z6j ⟨#[36]⟩ W [36] t.word rfl (by rw[hW]))).symm);rw[k6] at KB b2 b3 b5 ⊢;clear hT hok KP hW hm h hf hG k2 k3 k5 k6;go_enter Tryz.func42,Tryz.ntmps42;go_wp2_with (go_at_call 86;((with_reducible refine(KB.out _ (bR.alloc nR _)).mono ?_));rintro e w1 ⟨rfl,hb⟩;obtain⟨hc,hfz⟩:=bcell hb;have hz:=z1l hb;have HB1:=zz (((Below.refl w.heap.size w).alloc nR _).trans (hb.mono (by simp)));clear hb)
      go_ret2
      exact⟨y2q HT.out.symm,HB1.out⟩
     ·have b6:(t.kind==6)=false:=by simpa using k6
      rw[x3j k2 k3 k5 k6] at hT;have HT:Hid (T=W):=zz (by rw[hT,hW]);have K:=zz fun w=>z57 W (by omega) w
      clear hT hok KP hW hm h hf hG k2 k3 k5 k6;go_enter Tryz.func42,Tryz.ntmps42;go_wp2_with (first | (go_at_call 86;((with_reducible refine(KB.out _ (bR.alloc nR _)).mono ?_));rintro e w1 ⟨rfl,hb⟩;obtain⟨hc,hfz⟩:=bcell hb;have hz:=z1l hb;have HB1:=zz (((Below.refl w.heap.size w).alloc nR _).trans (hb.mono (by simp)));clear hb) | (go_at_call 89;((with_reducible refine(K.out _).mono ?_));rintro e w2 ⟨rfl,hb2⟩))
      go_ret2
      exact⟨y2q HT.out.symm,HB1.out.trans (hb2.mono (HB1.out.size))⟩
end Go.Proofs.YtngfihoempcplaaGreatDoor
