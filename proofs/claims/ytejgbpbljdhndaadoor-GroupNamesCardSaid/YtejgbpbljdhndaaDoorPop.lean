import Derived.Test.YtejgbpbljdhndaaDoorV2
namespace Go.Proofs.YtejgbpbljdhndaaDoor
open Go Go.RowKit
def comb:List Nat→Nat
 | []=>0
 | b::r=>b+256 * comb r
theorem z03 (b:Nat) (r:List Nat):comb (b::r)=b+256 * comb r:=rfl
theorem z6p (b c x y:Nat) (hb:b<256) (hc:c<256):(b+256 * x) &&& (c+256 * y)=(b &&& c)+256 * (x &&& y):=by
 have hbc:b &&& c<2 ^ 8:=Nat.lt_of_le_of_lt Nat.and_le_left hb;have e1:b+256 * x=2 ^ 8 * x+b:=by omega
 have e2:c+256 * y=2 ^ 8 * y+c:=by omega
 have e3:(b &&& c)+256 * (x &&& y)=2 ^ 8 * (x &&& y)+(b &&& c):=by omega
 rw[e1,e2,e3];apply Nat.eq_of_testBit_eq;intro i;rw[Nat.testBit_and,Nat.testBit_two_pow_mul_add _ hb,Nat.testBit_two_pow_mul_add _ hc,Nat.testBit_two_pow_mul_add _ hbc]
 split <;> rw[Nat.testBit_and]
def mask (m:Nat):Nat→Nat
 | 0=>0
 | n+1=>m+256 * mask m n
theorem z8r (m:Nat) (hm:m<256):∀ l:List Nat,(∀ b∈l,b<256)→comb l &&& mask m l.length=comb (l.map (·&&& m))
 | [],_=>by simp[comb,mask]
 | b::r,h=>by
   rw[List.length_cons,mask,z03,z6p _ _ _ _ (h b (by simp)) hm,z8r m hm r (fun x hx=>h x (by simp[hx])),List.map_cons,z03]
theorem z80 (f g:Nat→Nat):∀ l:List Nat,comb (l.map f)+comb (l.map g)=comb (l.map fun b=>f b+g b)
 | []=>rfl
 | b::r=>by
   rw[List.map_cons,List.map_cons,List.map_cons,z03,z03,z03,←z80 f g r];omega
theorem y1m (t q m:Nat) (ht:t * q=256) (ht0:0<t) (hm:m<256) (hmask:∀ b,b<256→∀ e,e<t→(b / t+q * e) &&& m=(b / t &&& m)):
  ∀ l:List Nat,(∀ b∈l,b<256)→comb l / t &&& mask m l.length=comb (l.map fun b=>b / t &&& m)
 | [],_=>by simp[comb,mask]
 | b::r,h=>by
   have hb:=h b (by simp)
   have hq:0<q:=by rcases Nat.eq_zero_or_pos q with rfl | h;·omega
                   ·exact h
   have e1:comb (b::r) / t=(b / t+q * (comb r % t))+256 * (comb r / t):=by
    rw[z03];have:b+256 * comb r=b+t * (q * comb r):=by rw[←Nat.mul_assoc,ht]
    rw[this,Nat.add_mul_div_left _ _ ht0]
    have h2:q * comb r=q * (comb r % t)+256 * (comb r / t):=by
     have:=Nat.mod_add_div (comb r) t
     calc q * comb r=q * (comb r % t+t * (comb r / t)):=by rw[this]
      _=q * (comb r % t)+(t * q) * (comb r / t):=by rw[Nat.mul_add,←Nat.mul_assoc,Nat.mul_comm q t]
      _=_:=by rw[ht]
    omega
   have hlt:b / t+q * (comb r % t)<256:=by
    have h1:b / t<q:=by rw[Nat.div_lt_iff_lt_mul ht0,Nat.mul_comm];omega
    have h2:comb r % t≤t - 1:=by have:=Nat.mod_lt (comb r) ht0;omega
    have h3:q * (comb r % t)≤q * (t - 1):=Nat.mul_le_mul_left _ h2;have h4:q * (t - 1)+q=256:=by rw[←ht,Nat.mul_comm t q,←Nat.mul_succ];congr 1;omega
    omega
   rw[e1,List.length_cons,mask,z6p _ _ _ _ hlt hm,hmask b hb _ (Nat.mod_lt _ ht0),y1m t q m ht ht0 hm hmask r (fun x hx=>h x (by simp[hx])),List.map_cons,z03]
def f1 (b:Nat):Nat:=(b / 2 &&& 85)+(b &&& 85)
def f2 (b:Nat):Nat:=(b / 4 &&& 51)+(b &&& 51)
def f3 (b:Nat):Nat:=b / 16+b % 16
theorem byte1:∀ b,b<256→f1 b<256:=by decide+kernel
theorem byte2:∀ b,b<256→f2 (f1 b)<256∧f2 (f1 b) % 16≤4∧f2 (f1 b) / 16≤4:=by decide+kernel
theorem byte3:∀ b,b<256→f3 (f2 (f1 b))=cnt (fun i=>b.testBit i) 8:=by decide+kernel
theorem mask1:∀ b,b<256→∀ e,e<2→(b / 2+128 * e) &&& 85=(b / 2 &&& 85):=by decide+kernel
theorem mask2:∀ b,b<256→∀ e,e<4→(b / 4+64 * e) &&& 51=(b / 4 &&& 51):=by decide+kernel
theorem mask3:∀ v,v<137→v &&& 15=v % 16:=by decide+kernel
theorem y5n:∀ l:List Nat,(∀ b∈l,b % 16≤4∧b / 16≤4)→(comb l / 16+comb l) &&& mask 15 l.length=comb (l.map f3)
 | [],_=>by simp[comb,mask]
 | b::r,h=>by
   obtain⟨h1,h2⟩:=h b (by simp)
   have hr:comb r % 16≤4:=by
    cases r with
    | nil=>simp[comb]
    | cons c r=>rw[z03];have:=(h c (by simp)).1;omega
   have e:comb (b::r) / 16+comb (b::r)=(b / 16+16 * (comb r % 16)+b)+256 * (comb r / 16+comb r):=by rw[z03];omega
   rw[e,List.length_cons,mask,z6p _ _ _ _ (by omega) (by omega),y5n r (fun x hx=>h x (by simp[hx])),mask3 _ (by omega),List.map_cons,z03];unfold f3;omega
theorem y44 (a b c d e f g h:Nat) (ha:a≤8) (hb:b≤8) (hc:c≤8) (hd:d≤8) (he:e≤8) (hf:f≤8) (hg:g≤8) (hh:h≤8):
  ∃ x1 x2 x3,x1=comb [a,b,c,d,e,f,g,h]+comb [a,b,c,d,e,f,g,h] / 256∧x2=x1+x1 / 65536∧x3=x2+x2 / 4294967296∧x1<18446744073709551616∧x2<18446744073709551616∧x3<9223372036854775808∧x3 % 128=a+b+c+d+e+f+g+h:=by
 have q1:comb [a,b,c,d,e,f,g,h]+comb [a,b,c,d,e,f,g,h] / 256=comb [a+b,b+c,c+d,d+e,e+f,f+g,g+h,h]:=by simp only[comb];omega
 have q2:comb [a+b,b+c,c+d,d+e,e+f,f+g,g+h,h]+comb [a+b,b+c,c+d,d+e,e+f,f+g,g+h,h] / 65536=comb [a+b+c+d,b+c+d+e,c+d+e+f,d+e+f+g,e+f+g+h,f+g+h,g+h,h]:=by
  have:comb [a+b,b+c,c+d,d+e,e+f,f+g,g+h,h] / 65536=comb [c+d,d+e,e+f,f+g,g+h,h]:=by simp only[comb];omega
  rw[this];simp only[comb];omega
 have q3:comb [a+b+c+d,b+c+d+e,c+d+e+f,d+e+f+g,e+f+g+h,f+g+h,g+h,h]+comb [a+b+c+d,b+c+d+e,c+d+e+f,d+e+f+g,e+f+g+h,f+g+h,g+h,h] / 4294967296=comb [a+b+c+d+(e+f+g+h),b+c+d+e+(f+g+h),c+d+e+f+(g+h),d+e+f+g+h,e+f+g+h,f+g+h,g+h,h]:=by
  have:comb [a+b+c+d,b+c+d+e,c+d+e+f,d+e+f+g,e+f+g+h,f+g+h,g+h,h] / 4294967296=comb [e+f+g+h,f+g+h,g+h,h]:=by simp only[comb];omega
  rw[this];simp only[comb];omega
 refine⟨_,_,_,rfl,rfl,rfl,?_,?_,?_,?_⟩
 ·rw[q1];simp only[comb];omega
 ·rw[q1,q2];simp only[comb];omega
 ·rw[q1,q2,q3];simp only[comb];omega
 ·rw[q1,q2,q3,z03];omega
theorem y5j:∀ l:List Nat,(∀ b∈l,b<256)→comb l<256 ^ l.length
 | [],_=>by simp[comb]
 | b::r,h=>by
   have:=y5j r (fun x hx=>h x (by simp[hx]));have hb:=h b (by simp);rw[z03,List.length_cons,Nat.pow_succ];omega
theorem z7e:∀ l:List Nat,(∀ b∈l,3 * b≤255)→3 * comb l<256 ^ l.length
 | [],_=>by simp[comb]
 | b::r,h=>by
   have:=z7e r (fun x hx=>h x (by simp[hx]));have hb:=h b (by simp);rw[z03,List.length_cons,Nat.pow_succ];omega
theorem eight {l:List Nat} (h:l.length=8):∃ a b c d e f g i,l=[a,b,c,d,e,f,g,i]:=by
 rcases l with _ | ⟨a,_ | ⟨b,_ | ⟨c,_ | ⟨d,_ | ⟨e,_ | ⟨f,_ | ⟨g,_ | ⟨i,_ | ⟨j,r⟩⟩⟩⟩⟩⟩⟩⟩⟩
 all_goals (try (simp at h;done))
 exact⟨_,_,_,_,_,_,_,_,rfl⟩
theorem z67 (f:Nat→Bool) (a:Nat):∀ b,cnt f (a+b)=cnt f a+cnt (fun i=>f (a+i)) b
 | 0=>rfl
 | b+1=>by rw[show a+(b+1)=(a+b)+1 by omega,cnt,z67 f a b,cnt];omega
theorem z4t {f g:Nat→Bool}:∀ {n:Nat},(∀ i,i<n→f i=g i)→cnt f n=cnt g n
 | 0,_=>rfl
 | n+1,h=>by rw[cnt,cnt,z4t (fun i hi=>h i (by omega)),h n (by omega)]
theorem y17:∀ l:List Nat,(∀ b∈l,b<256)→cnt (fun i=>(comb l).testBit i) (8 * l.length)=(l.map fun b=>cnt (fun i=>b.testBit i) 8).sum
 | [],_=>rfl
 | b::r,h=>by
   have e:comb (b::r)=2 ^ 8 * comb r+b:=by rw[z03];omega
   rw[List.length_cons,show 8 * (r.length+1)=8+8 * r.length by omega,z67,e,List.map_cons,List.sum_cons,←y17 r (fun x hx=>h x (by simp[hx]))]
   congr 1
   ·exact z4t fun i hi=>by rw[Nat.testBit_two_pow_mul_add _ (h b (by simp)),if_pos hi]
   ·exact z4t fun i hi=>by rw[Nat.testBit_two_pow_mul_add _ (h b (by simp)),if_neg (by omega)];congr 1;omega
def bytesN:Nat→Nat→List Nat
 | 0,_=>[]
 | n+1,x=>x % 256::bytesN n (x / 256)
theorem z92:∀ n x,x<256 ^ n→comb (bytesN n x)=x∧(bytesN n x).length=n∧∀ b∈bytesN n x,b<256
 | 0,x,h=>by
   have:x=0:=by simpa using h
   subst this;exact⟨rfl,rfl,by simp[bytesN]⟩
 | n+1,x,h=>by
   obtain⟨h1,h2,h3⟩:=z92 n (x / 256) (by rw[Nat.pow_succ] at h;exact Nat.div_lt_of_lt_mul (by omega));refine⟨by rw[bytesN,z03,h1];omega,by rw[bytesN,List.length_cons,h2],?_⟩;intro b hb;rw[bytesN,List.mem_cons] at hb
   rcases hb with rfl | hb
   ·omega
   ·exact h3 b hb
theorem y4l (x:Nat) (hx:x<18446744073709551616):∃ x1 x2 x3 x4 x5 x6,
  x1=(x / 2 &&& 6148914691236517205)+(x &&& 6148914691236517205)∧x2=(x1 / 4 &&& 3689348814741910323)+(x1 &&& 3689348814741910323)∧x3=(x2 / 16+x2) &&& 1085102592571150095∧
  x4=x3+x3 / 256∧x5=x4+x4 / 65536∧x6=x5+x5 / 4294967296∧x1<18446744073709551616∧x2<18446744073709551616∧x2 / 16+x2<18446744073709551616∧x3<18446744073709551616∧x4<18446744073709551616∧x5<18446744073709551616∧x6<9223372036854775808∧
  x6 % 128=cnt (fun i=>x.testBit i) 64:=by
 obtain⟨h1,h2,h3⟩:=z92 8 x (by simpa using hx);obtain⟨l,hl⟩:∃ l,l=bytesN 8 x:=⟨_,rfl⟩;rw[←hl] at h1 h2 h3
 have e1:(x / 2 &&& 6148914691236517205)+(x &&& 6148914691236517205)=comb (l.map f1):=by
  have a:=y1m 2 128 85 rfl (by omega) (by omega) mask1 l h3;have b:=z8r 85 (by omega) l h3;rw[h1,h2] at a b;have hm:mask 85 8=6148914691236517205:=by decide
  rw[hm] at a b;rw[a,b,z80];rfl
 have g1:∀ b∈l.map f1,b<256:=by
  intro b hb;obtain⟨c,hc,rfl⟩:=List.mem_map.1 hb;exact byte1 c (h3 c hc)
 have e2:(comb (l.map f1) / 4 &&& 3689348814741910323)+(comb (l.map f1) &&& 3689348814741910323)=comb ((l.map f1).map f2):=by
  have a:=y1m 4 64 51 rfl (by omega) (by omega) mask2 _ g1;have b:=z8r 51 (by omega) _ g1;rw[List.length_map,h2] at a b;have hm:mask 51 8=3689348814741910323:=by decide
  rw[hm] at a b;rw[a,b,z80];rfl
 have g2:∀ b∈(l.map f1).map f2,b<256∧b % 16≤4∧b / 16≤4:=by
  intro b hb;obtain⟨c,hc,rfl⟩:=List.mem_map.1 hb;obtain⟨d,hd,rfl⟩:=List.mem_map.1 hc;exact byte2 d (h3 d hd)
 have e3:(comb ((l.map f1).map f2) / 16+comb ((l.map f1).map f2)) &&& 1085102592571150095=comb (((l.map f1).map f2).map f3):=by
  have a:=y5n _ (fun b hb=>(g2 b hb).2);rw[List.length_map,List.length_map,h2] at a;have hm:mask 15 8=1085102592571150095:=by decide
  rw[hm] at a;exact a
 have e4:((l.map f1).map f2).map f3=l.map fun b=>cnt (fun i=>b.testBit i) 8:=by
  rw[List.map_map,List.map_map];exact List.map_congr_left fun b hb=>byte3 b (h3 b hb)
 have e5:=y17 l h3;rw[h1,h2] at e5;obtain⟨l0,hl0⟩:∃ l0,l0=l.map fun b=>cnt (fun i=>b.testBit i) 8:=⟨_,rfl⟩
 obtain⟨m1,hm1⟩:∃ m1,m1=l.map f1:=⟨_,rfl⟩;obtain⟨m2,hm2⟩:∃ m2,m2=m1.map f2:=⟨_,rfl⟩;rw[←hm1] at e1 e2 e3 e4 g1 g2;rw[←hm2] at e2 e3 e4 g2;rw[←hl0] at e4 e5;have k1:m1.length=8:=by rw[hm1,List.length_map,h2]
 have k2:m2.length=8:=by rw[hm2,List.length_map,k1]
 have k0:l0.length=8:=by rw[hl0,List.length_map,h2]
 have b0:∀ b∈l0,b≤8:=by
  intro b hb;rw[hl0] at hb;obtain⟨c,_,rfl⟩:=List.mem_map.1 hb;exact z9j _ 8
 have c1:comb m1<18446744073709551616:=by
  have:=y5j m1 g1;rw[k1] at this;simpa using this
 have c2:comb m2<18446744073709551616∧comb m2 / 16+comb m2<18446744073709551616:=by
  have:=z7e m2 (fun b hb=>by have:=g2 b hb;omega);rw[k2] at this;have h8:(256:Nat) ^ 8=18446744073709551616:=by decide
  rw[h8] at this
  constructor <;> omega
 obtain⟨a,b,c,d,e,f,g,h,rfl⟩:=eight k0
 ·skip
  have ha:=b0 a (by simp);have hb:=b0 b (by simp);have hc:=b0 c (by simp);have hd:=b0 d (by simp);have he:=b0 e (by simp);have hf:=b0 f (by simp);have hg:=b0 g (by simp);have hh:=b0 h (by simp);obtain⟨x4,x5,x6,q4,q5,q6,l4,l5,l6,hs⟩:=y44 a b c d e f g h ha hb hc hd he hf hg hh;refine⟨comb m1,comb m2,comb [a,b,c,d,e,f,g,h],x4,x5,x6,e1.symm,e2.symm,(e3.trans (by rw[e4])).symm,q4,q5,q6,c1,c2.1,c2.2,by omega,l4,l5,l6,?_⟩;rw[hs,e5];simp only[List.sum_cons,List.sum_nil];omega
end Go.Proofs.YtejgbpbljdhndaaDoor
