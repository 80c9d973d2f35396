import Derived.Test.YtejgbpbljdhndaaDoorFits
namespace Go.Proofs.YtejgbpbljdhndaaDoor
open Go Go.RowKit
def formR (r:Re) (level d g:Nat):Option Nat:=if level=4 then (if rep r=true then form r 0 d g else none) else form r (3 - level) d g
def formLR:List Re→Nat→Nat→Nat→Option Nat
 | [],_,_,g=>some g
 | r::rs,l,d,g=>match formR r l d g with
   | none=>none
   | some g'=>formLR rs l d g'
theorem z4v (kl d:Nat) (h:kl≤3):∀ (l:List Re) (g:Nat),formLR l kl d g=formL l (3 - kl) d g
 | [],g=>by rw[formLR,formL]
 | r::rs,g=>by
   rw[formLR,formL,formR,if_neg (by omega)]
   cases form r (3 - kl) d g with
   | none=>rfl
   | some g'=>exact z4v kl d h rs g'
theorem y09 (x:Re) (d g:Nat):formLR [x] 4 d g=if rep x=true then formL [x] 0 d g else none:=by
 rw[formLR,formR,if_pos rfl];by_cases h:rep x=true
 ·rw[if_pos h,if_pos h,formL];cases form x 0 d g <;> rfl
 ·rw[if_neg h,if_neg h]
theorem z3w (S:S4) (ks:List Re) (lo hi n:Int) (level d g:Nat):formR (.mk 1 S ks lo hi n) level d g=if lo=0∧hi=0∧n=0∧ks=[] then some g else none:=by
 have hrep:rep (.mk 1 S ks lo hi n)=true:=rfl
 have key:∀ lv,form (.mk 1 S ks lo hi n) lv d g=if lo=0∧hi=0∧n=0∧ks=[] then some g else none:=by
  intro lv;rw[form];by_cases h:lo=0∧hi=0∧n=0∧ks=[]
  ·obtain⟨rfl,rfl,rfl,rfl⟩:=h
   simp[lev,told,formL]
  ·rw[if_neg h,if_neg]
   rintro⟨_,ht⟩;apply h;simp[told] at ht;exact⟨ht.2.1,ht.2.2.1,ht.1,ht.2.2.2⟩
 unfold formR;rw[hrep,key,key]
 split <;> rfl
theorem z1i (k:Int) (S:S4) (ks:List Re) (lo hi n:Int) (level d g:Nat) (hk:k=2∨k=3):formR (.mk k S ks lo hi n) level d g=if S=none4∧lo=0∧hi=0∧n=0∧ks=[]∧level≠4 then some g else none:=by
 have hrep:rep (.mk k S ks lo hi n)=false:=by rcases hk with rfl | rfl <;> rfl
 have key:∀ lv,form (.mk k S ks lo hi n) lv d g=if S=none4∧lo=0∧hi=0∧n=0∧ks=[] then some g else none:=by
  intro lv;rw[form];by_cases h:S=none4∧lo=0∧hi=0∧n=0∧ks=[]
  ·obtain⟨rfl,rfl,rfl,rfl,rfl⟩:=h
   rcases hk with rfl | rfl <;> simp[lev,told,formL]
  ·rw[if_neg h,if_neg]
   rintro⟨_,ht⟩;apply h
   rcases hk with rfl | rfl <;> simp[told] at ht <;> exact⟨ht.1,ht.2.2.1,ht.2.2.2.1,ht.2.1,ht.2.2.2.2⟩
 unfold formR;rw[hrep];by_cases h4:level=4
 ·subst h4;simp
 ·rw[if_neg h4,key]
  by_cases h:S=none4∧lo=0∧hi=0∧n=0∧ks=[]
  ·rw[if_pos h,if_pos ⟨h.1,h.2.1,h.2.2.1,h.2.2.2.1,h.2.2.2.2,h4⟩]
  ·rw[if_neg h,if_neg (fun h'=>h ⟨h'.1,h'.2.1,h'.2.2.1,h'.2.2.2.1,h'.2.2.2.2.1⟩)]
theorem z16 (S:S4) (ks:List Re) (lo hi n:Int) (level d g:Nat) (hl:level≤4):formR (.mk 0 S ks lo hi n) level d g=if S=none4∧lo=0∧hi=0∧n=0∧ks=[]∧level≤1 then some g else none:=by
 have hrep:rep (.mk 0 S ks lo hi n)=true:=rfl
 have key:∀ lv,form (.mk 0 S ks lo hi n) lv d g=if S=none4∧lo=0∧hi=0∧n=0∧ks=[]∧2≤lv then some g else none:=by
  intro lv;rw[form];by_cases h:S=none4∧lo=0∧hi=0∧n=0∧ks=[]∧2≤lv
  ·obtain⟨rfl,rfl,rfl,rfl,rfl,h2⟩:=h
   simp[lev,told,formL,h2]
  ·rw[if_neg h,if_neg]
   rintro⟨h1,ht⟩;apply h;simp[told] at ht;simp[lev] at h1;exact⟨ht.1,ht.2.2.1,ht.2.2.2.1,ht.2.1,ht.2.2.2.2,h1⟩
 unfold formR;rw[hrep,key,key];by_cases h4:level=4
 ·subst h4;simp
 ·rw[if_neg h4]
  by_cases h:S=none4∧lo=0∧hi=0∧n=0∧ks=[]∧level≤1
  ·rw[if_pos h,if_pos ⟨h.1,h.2.1,h.2.2.1,h.2.2.2.1,h.2.2.2.2.1,by omega⟩]
  ·rw[if_neg h,if_neg (fun h'=>h ⟨h'.1,h'.2.1,h'.2.2.1,h'.2.2.2.1,h'.2.2.2.2.1,by omega⟩)]
theorem z1s (S:S4) (ks:List Re) (lo hi n:Int) (level d g:Nat) (hl:level≤4):formR (.mk 6 S ks lo hi n) level d g=if S=none4∧n=0∧level≤2∧bound lo hi=true∧ks.length=1 then formLR ks 4 d g else none:=by
 have hrep:rep (.mk 6 S ks lo hi n)=true:=rfl
 have key:∀ lv,form (.mk 6 S ks lo hi n) lv d g=if S=none4∧n=0∧1≤lv∧bound lo hi=true∧ks.length=1 then formLR ks 4 d g else none:=by
  intro lv;rw[form]
  rcases ks with _ | ⟨x,_ | ⟨y,t⟩⟩
  ·rw[if_neg (by simp[told]),if_neg (by simp)]
  ·rw[y09]
   by_cases h:S=none4∧n=0∧1≤lv∧bound lo hi=true
   ·obtain⟨rfl,rfl,h2,h3⟩:=h
    cases hr:rep x <;> simp[lev,told,h2,h3,hr,levK]
   ·rw[if_neg,if_neg (fun h'=>h ⟨h'.1,h'.2.1,h'.2.2.1,h'.2.2.2.1⟩)]
    rintro⟨h1,ht⟩;apply h;simp[told] at ht;simp[lev] at h1;exact⟨ht.1,ht.2.1,h1,ht.2.2.2⟩
  ·rw[if_neg (by simp[told]),if_neg (by simp)]
 unfold formR;rw[hrep,key,key];by_cases h4:level=4
 ·subst h4;simp
 ·rw[if_neg h4]
  by_cases h:S=none4∧n=0∧level≤2∧bound lo hi=true∧ks.length=1
  ·rw[if_pos h,if_pos ⟨h.1,h.2.1,by omega,h.2.2.2⟩]
  ·rw[if_neg h,if_neg (fun h'=>h ⟨h'.1,h'.2.1,by omega,h'.2.2.2⟩)]
theorem z08 (S:S4) (ks:List Re) (lo hi n:Int) (level d g:Nat):formR (.mk 7 S ks lo hi n) level d g=if S=none4∧lo=0∧hi=0∧n=num (g+1)∧d<64∧ks.length=1 then formLR ks 0 (d+1) (g+1) else none:=by
 have hrep:rep (.mk 7 S ks lo hi n)=true:=rfl
 have key:∀ lv,form (.mk 7 S ks lo hi n) lv d g=if S=none4∧lo=0∧hi=0∧n=num (g+1)∧d<64∧ks.length=1 then formLR ks 0 (d+1) (g+1) else none:=by
  intro lv;rw[form,z4v 0 _ (by omega),if_pos rfl];by_cases h:S=none4∧lo=0∧hi=0∧n=num (g+1)∧d<64∧ks.length=1
  ·rw[if_pos h]
   obtain⟨rfl,rfl,rfl,h1,h2,h3⟩:=h;rw[if_pos ⟨by simp[lev],by simp[told,h3]⟩,if_pos ⟨h1,h2⟩]
  ·rw[if_neg h]
   split
   ·rename_i h1
    obtain⟨_,ht⟩:=h1;simp[told] at ht;rw[if_neg];intro h2;exact h ⟨ht.1,ht.2.1,ht.2.2.1,h2.1,h2.2,ht.2.2.2⟩
   ·rfl
 unfold formR;rw[hrep,key,key]
 split <;> rfl
theorem z0w (k:Int) (S:S4) (ks:List Re) (lo hi n:Int) (level d g:Nat) (hl:level≤4) (hk:k=4∨k=5):formR (.mk k S ks lo hi n) level d g=if S=none4∧lo=0∧hi=0∧n=0∧(level:Int)≤5 - k∧2≤ks.length then formLR ks (if k=4 then 2 else 1) d g else none:=by
 have hrep:rep (.mk k S ks lo hi n)=true:=by rcases hk with rfl | rfl <;> rfl
 have key:∀ lv:Nat,form (.mk k S ks lo hi n) lv d g=if S=none4∧lo=0∧hi=0∧n=0∧k - 2≤(lv:Int)∧2≤ks.length then formLR ks (if k=4 then 2 else 1) d g else none:=by
  intro lv;rw[form];by_cases h:S=none4∧lo=0∧hi=0∧n=0∧k - 2≤(lv:Int)∧2≤ks.length
  ·rw[if_pos h]
   obtain⟨rfl,rfl,rfl,rfl,h1,h2⟩:=h
   rcases hk with rfl | rfl
   ·rw[if_pos ⟨by simp[lev];omega,by simp[told,h2]⟩,if_neg (by omega),if_pos rfl,z4v 2 _ (by omega)];rfl
   ·rw[if_pos ⟨by simp[lev];omega,by simp[told,h2]⟩,if_neg (by omega),if_neg (by omega),z4v 1 _ (by omega)];rfl
  ·rw[if_neg h,if_neg]
   rintro⟨h1,ht⟩;apply h
   rcases hk with rfl | rfl <;> simp[told] at ht <;> simp[lev] at h1 <;> exact⟨ht.1,ht.2.2.1,ht.2.2.2.1,ht.2.1,by omega,ht.2.2.2.2⟩
 unfold formR;rw[hrep,key,key];by_cases h4:level=4
 ·subst h4
  rw[if_pos rfl,if_pos rfl,if_neg (by rintro⟨_,_,_,_,h,_⟩;rcases hk with rfl | rfl <;> omega),if_neg (by rintro⟨_,_,_,_,h,_⟩;rcases hk with rfl | rfl <;> omega)]
 ·rw[if_neg h4]
  have e:(k - 2≤((3 - level:Nat):Int)) ↔ ((level:Int)≤5 - k):=by rcases hk with rfl | rfl <;> omega
  by_cases h:S=none4∧lo=0∧hi=0∧n=0∧(level:Int)≤5 - k∧2≤ks.length
  ·rw[if_pos h,if_pos ⟨h.1,h.2.1,h.2.2.1,h.2.2.2.1,e.2 h.2.2.2.2.1,h.2.2.2.2.2⟩]
  ·rw[if_neg h,if_neg (fun h'=>h ⟨h'.1,h'.2.1,h'.2.2.1,h'.2.2.2.1,e.1 h'.2.2.2.2.1,h'.2.2.2.2.2⟩)]
theorem z14 (k:Int) (S:S4) (ks:List Re) (lo hi n:Int) (level d g:Nat) (hk:k<0∨7<k):formR (.mk k S ks lo hi n) level d g=none:=by
 have key:∀ lv,lv≤3→form (.mk k S ks lo hi n) lv d g=none:=by
  intro lv hlv;rw[form,if_neg];rintro⟨h1,_⟩;unfold lev at h1;rw[if_neg (by omega),if_neg (by omega),if_neg (by omega),if_neg (by omega)] at h1;omega
 unfold formR;rw[key _ (by omega),key _ (by omega)]
 split
 ·split <;> rfl
 ·rfl
theorem z3i (kl d:Nat) (b:List Re):∀ (a:List Re) (g:Nat),formLR (a++b) kl d g=match formLR a kl d g with
  | none=>none
  | some g'=>formLR b kl d g'
 | [],g=>by simp[formLR]
 | x::a,g=>by
   rw[List.cons_append,formLR,formLR]
   cases formR x kl d g with
   | none=>rfl
   | some g'=>exact z3i kl d b a g'
theorem z15 {kl d g g':Nat} {l:List Re} {k:Nat} {r:Re} (h:l[k]?=some r) (hp:formLR (l.take k) kl d g=some g'):formLR (l.take (k+1)) kl d g=formR r kl d g':=by
 obtain⟨hk,e⟩:=List.getElem?_eq_some_iff.1 h;rw[List.take_succ_eq_append_getElem hk,e,z3i,hp];simp only[formLR]
 cases formR r kl d g' <;> rfl
theorem z12 {kl d g:Nat} {l:List Re} {k:Nat} (hp:formLR (l.take k) kl d g=none):formLR l kl d g=none:=by
 rw[←List.take_append_drop k l,z3i,hp]
theorem z3p {r:Re} {level d g g':Nat} (h:formR r level d g=some g'):g'≤g+sizeE r:=by
 unfold formR at h
 split at h
 ·split at h
  ·exact y1a _ _ _ _ _ h
  ·cases h
 ·exact y1a _ _ _ _ _ h
theorem z2u:∀ (l:List Re) (kl d g g':Nat),formLR l kl d g=some g'→g'≤g+sizeL l
 | [],kl,d,g,g',h=>by rw[formLR] at h;injection h with h;rw[sizeL];omega
 | x::l,kl,d,g,g',h=>by
   rw[formLR] at h
   cases hx:formR x kl d g with
   | none=>rw[hx] at h;cases h
   | some g1=>
     rw[hx] at h;have h1:=z3p hx;have h2:=z2u l kl d g1 g' h;rw[sizeL];omega
end Go.Proofs.YtejgbpbljdhndaaDoor
