import Derived.Test.YtiafefjaldcpbaaDoorN20
namespace Go.Proofs.YtiafefjaldcpbaaDoor
open Go Go.RowKit
theorem empty_str (s:ByteArray):s.toList.isEmpty=true ↔ s.data.toList=[]:=by
 have h:∀ r:List UInt8,∀ i,ByteArray.toList.loop s i r=r.reverse++s.data.toList.drop i:=by
  intro r i
  induction hn:s.size - i generalizing i r with
  | zero=>
    unfold ByteArray.toList.loop;rw[if_neg (by omega),List.drop_eq_nil_of_le (by rw[len_data];omega),List.append_nil]
  | succ n ih=>
    unfold ByteArray.toList.loop;have hi:i<s.size:=by omega
    rw[if_pos hi,ih _ _ (by omega),List.reverse_cons,drop_at s i hi];have:s.get! i=s[i]:=by simp[ByteArray.get!,hi];rfl
    rw[this];simp
 have h2:s.toList=s.data.toList:=by unfold ByteArray.toList;rw[h];simp
 rw[h2];simp
theorem rst_23 (a:ByteArray):(((⟨#[40]⟩++a)++⟨#[41]⟩)++⟨#[123,50,44,51,125]⟩:ByteArray).data.toList=brk a.data.toList++[123,50,44,51,125]:=by simp[brk]
theorem rst_2 (a:ByteArray):(((⟨#[40]⟩++a)++⟨#[41]⟩)++((⟨#[40]⟩++a)++⟨#[41]⟩):ByteArray).data.toList=brk a.data.toList++brk a.data.toList:=by simp[brk]
theorem rst_3 (a:ByteArray):((((⟨#[40]⟩++a)++⟨#[41]⟩)++((⟨#[40]⟩++a)++⟨#[41]⟩))++((⟨#[40]⟩++a)++⟨#[41]⟩):ByteArray).data.toList=brk a.data.toList++(brk a.data.toList++brk a.data.toList):=by simp[brk]
theorem rst_o (a:ByteArray):(((⟨#[40]⟩++a)++⟨#[41]⟩)++⟨#[63]⟩:ByteArray).data.toList=brk a.data.toList++[63]:=by simp[brk]
theorem rst_m (a:ByteArray):(((⟨#[40]⟩++a)++⟨#[41]⟩)++⟨#[42]⟩:ByteArray).data.toList=brk a.data.toList++[42]:=by simp[brk]
theorem rst_t (a:ByteArray):((((⟨#[40]⟩++a)++⟨#[41]⟩)++((⟨#[40]⟩++a)++⟨#[41]⟩))++⟨#[42]⟩:ByteArray).data.toList=brk a.data.toList++(brk a.data.toList++[42]):=by simp[brk]
theorem bool_iff {p q:Bool} (h:p=true ↔ q=true):p=q:=by cases p <;> cases q <;> simp_all
theorem mat_or {r x y:Re} {s:Bs} (h:Lang r s ↔ Lang x s∨Lang y s) (hr:rightB r=true) (hx:matB x s=true):matB r s=true:=
 (matB_lang r s).2 ⟨(rightB_iff r).1 hr,h.2 (.inl ((matB_lang x s).1 hx).2)⟩
theorem mat_or2 {r x y:Re} {s:Bs} (h:Lang r s ↔ Lang x s∨Lang y s) (hr:rightB r=true) (hrx:rightB x=true) (hry:rightB y=true) (hx:matB x s=false):matB r s=matB y s:=by
 refine bool_iff ?_;rw[matB_lang,matB_lang,h]
 constructor
 ·rintro⟨_,h1 | h1⟩
  ·have:=(matB_lang x s).2 ⟨(rightB_iff x).1 hrx,h1⟩
   rw[hx] at this;cases this
  ·exact⟨(rightB_iff y).1 hry,h1⟩
 ·rintro⟨_,h1⟩
  exact⟨(rightB_iff r).1 hr,.inr h1⟩
theorem mat_nil {r y:Re} {s:Bs} (h:Lang r s ↔ s=[]∨Lang y s) (hr:rightB r=true) (hs:s=[]):matB r s=true:=
 (matB_lang r s).2 ⟨(rightB_iff r).1 hr,h.2 (.inl hs)⟩
theorem mat_nil2 {r y:Re} {s:Bs} (h:Lang r s ↔ s=[]∨Lang y s) (hr:rightB r=true) (hry:rightB y=true) (hs:¬ s=[]):matB r s=matB y s:=by
 refine bool_iff ?_;rw[matB_lang,matB_lang,h]
 constructor
 ·rintro⟨_,h1 | h1⟩
  ·exact absurd h1 hs
  ·exact⟨(rightB_iff y).1 hry,h1⟩
 ·rintro⟨_,h1⟩
  exact⟨(rightB_iff r).1 hr,.inr h1⟩
theorem walk_repeats (a s:ByteArray) (w:World):Calls Tryd.prog 4 #[.string a,.string s] w fun e w'=>e= .returned (.bool true)∧Below w.heap.size w w':=by
 by_cases h1:40<a.size
 ·exact reps_a h1
 by_cases h2:15<s.size
 ·exact reps_s (by omega) h2
 have la:a.data.toList.length=a.size:=len_data a
 rcases parse_ends a.data.toList (by omega) with ⟨xa,ha⟩ | ⟨q,er,ha,_,her⟩
 ·obtain⟨r23,h23,_⟩:=parse_23 ha (by omega)
  obtain⟨r2,h2',_⟩:=parse_both ha ha (by omega) (by omega);obtain⟨r3,h3,_⟩:=parse_thrice ha (by omega);obtain⟨ro,ho,_⟩:=parse_opt ha (by omega);obtain⟨r1,h1',_⟩:=parse_brk ha (by omega);obtain⟨rm,hm,_⟩:=parse_many ha (by omega);obtain⟨rt,ht,_⟩:=parse_then ha (by omega);obtain⟨l1,l2,l3⟩:=repeats_law ha (by omega) h1' h23 h2' h3 ho hm ht;have L1:=l1 s.data.toList;have L2:=l2 s.data.toList;have L3:=l3 s.data.toList;have he:=empty_str s;rw[←rst_23] at h23;rw[←rst_2] at h2';rw[←rst_3] at h3;rw[←rst_o] at ho;rw[←str_1] at h1';rw[←rst_m] at hm;rw[←rst_t] at ht
  cases hse:s.toList with
  | nil=>
    have hs:=he.1 (by rw[hse];rfl)
    cases hu2:matB r2 s.data.toList with
    | true=>exact reps_main_ye (by omega) (by omega) ha h23 h2' h3 ho h1' hm ht hu2 hse (fun h=>by
     simp only[Bool.and_eq_true] at h;exact⟨mat_or L1 h.1.1.1 hu2,mat_nil L2 h.1.2 hs,mat_nil L3 h.2 hs⟩)
    | false=>exact reps_main_ne (by omega) (by omega) ha h23 h2' h3 ho h1' hm ht hu2 hse (fun h=>by
     simp only[Bool.and_eq_true] at h;exact⟨mat_or2 L1 h.1.1.1.1 h.1.1.1.2 h.1.1.2 hu2,mat_nil L2 h.1.2 hs,mat_nil L3 h.2 hs⟩)
  | cons z zl=>
    have hs:¬ s.data.toList=[]:=fun h=>by have:=he.2 h;rw[hse] at this;cases this
    cases hu2:matB r2 s.data.toList with
    | true=>exact reps_main_yf (by omega) (by omega) ha h23 h2' h3 ho h1' hm ht hu2 hse (fun h=>by
     simp only[Bool.and_eq_true] at h;exact⟨mat_or L1 h.1.1.1.1.1 hu2,mat_nil2 L2 h.1.1.1.2 h.1.1.2 hs,mat_nil2 L3 h.1.2 h.2 hs⟩)
    | false=>exact reps_main_nf (by omega) (by omega) ha h23 h2' h3 ho h1' hm ht hu2 hse (fun h=>by
     simp only[Bool.and_eq_true] at h;exact⟨mat_or2 L1 h.1.1.1.1.1.1 h.1.1.1.1.1.2 h.1.1.1.1.2 hu2,mat_nil2 L2 h.1.1.1.2 h.1.1.2 hs,mat_nil2 L3 h.1.2 h.2 hs⟩)
 ·exact reps_na (by omega) (by omega) ha (er_ne her)
end Go.Proofs.YtiafefjaldcpbaaDoor
