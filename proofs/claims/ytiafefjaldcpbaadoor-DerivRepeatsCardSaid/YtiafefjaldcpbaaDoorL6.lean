import Derived.Test.YtiafefjaldcpbaaDoorL3
namespace Go.Proofs.YtiafefjaldcpbaaDoor
open Go Go.RowKit
set_option maxRecDepth 100000
set_option maxHeartbeats 4000000
section
structure BegAt (Q:Pm) (c:LkP) (W:World) (n:Nat) (lo hi:Int) (kid:Nat) (ad:Addr) (kk:Nat) (ke:Bool):Prop where
 a5:W.cell? ⟨(c.PA.add (n * 15)).block,(c.PA.add (n * 15)).off+5,none⟩=some (.int .i64 lo)
 a6:W.cell? ⟨(c.PA.add (n * 15)).block,(c.PA.add (n * 15)).off+6,none⟩=some (.int .i64 hi)
 a7:W.cell? ⟨(c.PA.add (n * 15)).block,(c.PA.add (n * 15)).off+7,none⟩=some (.slice (some ad) 1 kk)
 ck:W.cell? ad=some (.int .i64 kid)
 ce:W.cell? ⟨(c.PA.add (kid * 15)).block,(c.PA.add (kid * 15)).off+11+modeN Q.B Q.E,none⟩=some (.bool ke)
structure BegH (Q:Pm) (c:LkP) (w0 w:World) (S:LS) (n t ts:Nat) (x:Nd) (lo hi:Int) (kid:Nat) (ad:Addr) (kk:Nat) (ke:Bool):Prop where
 below:Below c.B w0 w
 lk:Lk Q c w S
 look:∀ W S',Lk Q c W S'→W.cell? ⟨c.L,0,none⟩=some (.slice (some c.PA) Q.T.length c.pc)∧W.cell? ⟨c.L,1,none⟩=some (.int .i64 (modeN Q.B Q.E:Nat))
 at_:∀ W,Below c.B w0 W→BegAt Q c W n lo hi kid ad kk ke
 top:∀ W,Below c.B w0 W→Calls Tryd.prog 61 #[.pointer (some (c.PA.add (n * 15)))] W fun e w'=>e= .returned (.int .i64 (topQ x.r))∧w'=W
 fin:∀ W,Below c.B w0 W→Lk Q c W S→Calls Tryd.prog 31 #[.pointer (some ⟨c.L,0,none⟩),.int .i64 n,.int .i64 t] W (PostLk Q c w0 (.fin n t) S)
 btn:∀ S1 W,(S1=S∨Run Q (.fin n t) S S1)→Below c.B w0 W→Lk Q c W S1→leftN x.r (closN x.r ke ts)≠0→Calls Tryd.prog 62 #[.pointer (some ⟨c.L,0,none⟩),.int .i64 n,.int .i64 t,.int .u64 (leftN x.r (closN x.r ke ts):Nat)] W (PostLk Q c w0 (.btn n t (leftN x.r (closN x.r ke ts))) S1)
 lt:n<Q.T.length∧kid<Q.T.length
 ke:ke=keOf Q.B Q.E x
 px:Q.T[n]?=some x
 cn:x.cn≠0
theorem Lk.drews {Q:Pm} {c:LkP} {w:World} {S:LS} (h:Lk Q c w S) (m:Nat):Lk Q c (w.drewN m) S:=by
 obtain⟨DB,BB,ab,vw,h⟩:=h;exact⟨DB,BB,ab,vw,h.drews m⟩
section
variable {Q:Pm} {c:LkP} {w0 w:World} {S:LS} {n t ts:Nat} {x:Nd} {lo hi:Int} {kid kk:Nat} {ad:Addr} {ke:Bool}
theorem beg_ff (h:BegH Q c w0 w S n t ts x lo hi kid ad kk ke) {W:World} (hb:Below c.B w0 W) (hl:Lk Q c W S) (h1:closN x.r ke ts >>> x.r.lo.toNat=0) (h2:leftN x.r (closN x.r ke ts)=0):PostLk Q c w0 (.beg n t ts) S (.returned (.tuple #[])) W:=by
 rw[h.ke] at h1 h2;exact⟨rfl,S,.beg h.px h.cn (fun q=>absurd h1 q) (fun _=>rfl) (fun q=>absurd h2 q) (fun _=>rfl),hl,hb⟩
theorem beg_ft (h:BegH Q c w0 w S n t ts x lo hi kid ad kk ke) {W:World} {S':LS} (hr:Run Q (.btn n t (leftN x.r (closN x.r ke ts))) S S') (hb:Below c.B w0 W) (hl:Lk Q c W S') (h1:closN x.r ke ts >>> x.r.lo.toNat=0) (h2:leftN x.r (closN x.r ke ts)≠0):PostLk Q c w0 (.beg n t ts) S (.returned (.tuple #[])) W:=by
 rw[h.ke] at h1 h2 hr;exact⟨rfl,S',.beg h.px h.cn (fun q=>absurd h1 q) (fun _=>rfl) (fun _=>hr) (fun q=>absurd q h2),hl,hb⟩
theorem beg_tf (h:BegH Q c w0 w S n t ts x lo hi kid ad kk ke) {W:World} {S':LS} (hr:Run Q (.fin n t) S S') (hb:Below c.B w0 W) (hl:Lk Q c W S') (h1:closN x.r ke ts >>> x.r.lo.toNat≠0) (h2:leftN x.r (closN x.r ke ts)=0):PostLk Q c w0 (.beg n t ts) S (.returned (.tuple #[])) W:=by
 rw[h.ke] at h1 h2;exact⟨rfl,S',.beg h.px h.cn (fun _=>hr) (fun q=>absurd q h1) (fun q=>absurd h2 q) (fun _=>rfl),hl,hb⟩
theorem beg_tt (h:BegH Q c w0 w S n t ts x lo hi kid ad kk ke) {W:World} {S1 S':LS} (hr:Run Q (.fin n t) S S1) (hr2:Run Q (.btn n t (leftN x.r (closN x.r ke ts))) S1 S') (hb:Below c.B w0 W) (hl:Lk Q c W S') (h1:closN x.r ke ts >>> x.r.lo.toNat≠0) (h2:leftN x.r (closN x.r ke ts)≠0):PostLk Q c w0 (.beg n t ts) S (.returned (.tuple #[])) W:=by
 rw[h.ke] at h1 h2 hr2;exact⟨rfl,S',.beg h.px h.cn (fun _=>hr) (fun q=>absurd q h1) (fun _=>hr2) (fun q=>absurd q h2),hl,hb⟩
end
theorem beg_pos {Q:Pm} {c:LkP} {w0 w:World} {S:LS} {n t ts lon:Nat} {x:Nd} {kid kk:Nat} {ad:Addr} {ke:Bool} {hin:Nat} (hhi:x.r.hi=hin) (h2:1<hin) (h3:hin≤8) (hlo:x.r.lo=lon) (hlo8:lon≤8) (hbds:Bds x.r) (hts:ts<1024) (h:BegH Q c w0 w S n t ts x (lon:Nat) (hin:Nat) kid ad kk ke):
  Calls Tryd.prog 44 #[.pointer (some ⟨c.L,0,none⟩),.int .i64 n,.int .i64 t,.int .u64 ts] w (PostLk Q c w0 (.beg n t ts) S):=by
 have HH:=Lib.hid h;have hlon:x.r.lo.toNat=lon:=by omega
 have hhin:x.r.hi.toNat=hin:=by omega
 have htop:=top_le hbds;have hpw2:=wrapU_pow h3;have b3:decide (0<(hin:Int))=true:=by simp;omega
 have b3':decide (0<hin)=true:=by simp;omega
 have b4:decide ((hin:Int)<0)=false:=by simp
 have hpow2:2 ^ hin<512:=by have:2 ^ hin≤2 ^ 8:=Nat.pow_le_pow_right (by decide) h3;omega
 have hsh:ts=shutN x.r ts:=by unfold shutN;rw[if_neg (fun q=>by have:=q.1;omega)]
 have hs0:ts<1024:=by omega
 obtain⟨c0,c1⟩:=h.look w S h.lk;obtain⟨a5,a6,a7,ck,ce⟩:=h.at_ w h.below
 obtain⟨hnP,hkP⟩:=h.lt;have hmd:=modeN_lt Q.B Q.E;have HBD:Hid (∀ m,Below c.B w0 (w.drewN m)):=Lib.hid fun m=>h.below.trans (below_dn _ _ _)
 have HLD:Hid (∀ m,Lk Q c (w.drewN m) S):=Lib.hid fun m=>h.lk.drews m
 obtain⟨md,hmd2⟩:∃ v,v=modeN Q.B Q.E:=⟨_,rfl⟩;rw[←hmd2] at c1 ce hmd;obtain⟨P,hP⟩:∃ v,v=Q.T.length:=⟨_,rfl⟩;rw[←hP] at c0 hnP hkP;have HT:=Lib.hid htop;clear h hmd2 hP
 cases ke with
 | false=>
   have s5:ts<18446744073709551616:=by omega
   have hts1:closN x.r false ts=ts &&& ((2 <<< topQ x.r) - 1):=by unfold closN;rw[if_neg (by simp),←hsh]
   obtain⟨r1,r2,s6,s7,s8⟩:=top_steps s5 htop;rw[←hts1] at s8;have hcl9:=clos_lt (ke:=false) (ts:=ts) hbds;obtain⟨ts2,ht2⟩:∃ v,v=closN x.r false ts:=⟨_,rfl⟩;rw[←ht2] at s8 hcl9;have s9:=shr_div ts2 lon;obtain⟨sh2,hsh2⟩:∃ v,v=ts2 >>> lon:=⟨_,rfl⟩;rw[←hsh2] at s9;have s10:=andNot_bits (a:=ts2) (p:=2 ^ hin) hcl9 hpow2;have hlf:leftN x.r ts2=ts2 ^^^ (ts2 &&& 2 ^ hin):=by unfold leftN;rw[if_pos (by omega),hhin,Nat.one_shiftLeft]
   rw[←hlf] at s10;obtain⟨p2,hp2⟩:∃ v,v=2 ^ hin:=⟨_,rfl⟩;rw[←hp2] at s10 hpw2;obtain⟨ts3,ht3⟩:∃ v,v=leftN x.r ts2:=⟨_,rfl⟩;rw[←ht3] at s10;clear hlf hp2;have hx1:closN x.r false ts >>> x.r.lo.toNat=sh2:=by rw[hlon,←ht2,hsh2]
   have hx2:leftN x.r (closN x.r false ts)=ts3:=by rw[←ht2,ht3]
   have HX1:=Lib.hid hx1;have HX2:=Lib.hid hx2;have HBT:Hid (∀ S1 W,(S1=S∨Run Q (.fin n t) S S1)→Below c.B w0 W→Lk Q c W S1→ts3≠0→Calls Tryd.prog 62 #[.pointer (some ⟨c.L,0,none⟩),.int .i64 n,.int .i64 t,.int .u64 (ts3:Nat)] W (PostLk Q c w0 (.btn n t ts3) S1)):=Lib.hid (by have:=HH.out.btn;rw[hx2] at this;exact this);clear hx1 hx2 hts1 ht2 ht3 hsh2 s5;have hc0:sh2=0∨sh2≠0:=by omega
   have he0:ts3=0∨ts3≠0:=by omega
   have htop':=HT.out;obtain⟨tp,htp⟩:∃ v,v=topQ x.r:=⟨_,rfl⟩;have HTOP:Hid (∀ W,Below c.B w0 W→Calls Tryd.prog 61 #[.pointer (some (c.PA.add (n * 15)))] W fun e w'=>e= .returned (.int .i64 (tp:Nat))∧w'=W):=Lib.hid (by rw[htp];exact HH.out.top);rw[←htp] at s6 htop';clear htp htop hlo hhi hlon hsh hbds hts hs0 hcl9 hhin h2 hpow2;go_enter Tryd.func44,Tryd.ntmps44;go_wp2;go_quiet (fail);have HB3:=Lib.hid (HBD.out nq);have HL3:=Lib.hid (HLD.out nq)
   rcases hc0 with hc0 | hc0 <;> rcases he0 with he0 | he0
   ·have b1:((sh2:Int)==0)=true:=by simp;omega
    have b1':(sh2==0)=true:=by simp;omega
    have b2:((ts3:Int)==0)=true:=by simp;omega
    have b2':(ts3==0)=true:=by simp;omega
    have HC0:=Lib.hid hc0;have HE0:=Lib.hid he0;clear hc0 he0;go_wp2_with (first | (go_at_call 61;((with_reducible refine(HTOP.out _ HB3.out).mono ?_));rintro e w9 ⟨rfl,rfl⟩))
    go_end0
    exact beg_ff HH.out HB3.out HL3.out (by rw[HX1.out];exact HC0.out) (by rw[HX2.out];exact HE0.out)
   ·have b1:((sh2:Int)==0)=true:=by simp;omega
    have b1':(sh2==0)=true:=by simp;omega
    have b2:((ts3:Int)==0)=false:=by simp;omega
    have b2':(ts3==0)=false:=by simp;omega
    have HC0:=Lib.hid hc0;have HE0:=Lib.hid he0;clear hc0 he0;go_wp2_with (first | (go_at_call 61;((with_reducible refine(HTOP.out _ HB3.out).mono ?_));rintro e w9 ⟨rfl,rfl⟩) | (go_at_call 62;((with_reducible refine(HBT.out S _ (.inl rfl) HB3.out HL3.out HE0.out).mono ?_));rintro e w2 ⟨rfl,S2,hr2,hl2,hb2⟩;have HR2:=Lib.hid hr2;have HL2:=Lib.hid hl2;have HB2:=Lib.hid hb2;clear hr2 hl2 hb2))
    go_end0
    exact beg_ft HH.out (by rw[HX2.out];exact HR2.out) HB2.out HL2.out (by rw[HX1.out];exact HC0.out) (by rw[HX2.out];exact HE0.out)
   ·have b1:((sh2:Int)==0)=false:=by simp;omega
    have b1':(sh2==0)=false:=by simp;omega
    have b2:((ts3:Int)==0)=true:=by simp;omega
    have b2':(ts3==0)=true:=by simp;omega
    have HC0:=Lib.hid hc0;have HE0:=Lib.hid he0;clear hc0 he0;go_wp2_with (first | (go_at_call 61;((with_reducible refine(HTOP.out _ HB3.out).mono ?_));rintro e w9 ⟨rfl,rfl⟩) | (go_at_call 31;((with_reducible refine(HH.out.fin _ HB3.out HL3.out).mono ?_));rintro e w1 ⟨rfl,S1,hr1,hl1,hb1⟩;have HR1:=Lib.hid hr1;have HL1:=Lib.hid hl1;have HB1:=Lib.hid hb1;have a61:=(HH.out.at_ w1 hb1).a6;clear hr1 hl1 hb1))
    go_end0
    exact beg_tf HH.out HR1.out HB1.out HL1.out (by rw[HX1.out];exact HC0.out) (by rw[HX2.out];exact HE0.out)
   ·have b1:((sh2:Int)==0)=false:=by simp;omega
    have b1':(sh2==0)=false:=by simp;omega
    have b2:((ts3:Int)==0)=false:=by simp;omega
    have b2':(ts3==0)=false:=by simp;omega
    have HC0:=Lib.hid hc0;have HE0:=Lib.hid he0;clear hc0 he0;go_wp2_with (first | (go_at_call 61;((with_reducible refine(HTOP.out _ HB3.out).mono ?_));rintro e w9 ⟨rfl,rfl⟩) | (go_at_call 31;((with_reducible refine(HH.out.fin _ HB3.out HL3.out).mono ?_));rintro e w1 ⟨rfl,S1,hr1,hl1,hb1⟩;have HR1:=Lib.hid hr1;have HL1:=Lib.hid hl1;have HB1:=Lib.hid hb1;have a61:=(HH.out.at_ w1 hb1).a6;clear hr1 hl1 hb1) | (go_at_call 62;((with_reducible refine(HBT.out S1 _ (.inr HR1.out) HB1.out HL1.out HE0.out).mono ?_));rintro e w2 ⟨rfl,S2,hr2,hl2,hb2⟩;have HR2:=Lib.hid hr2;have HL2:=Lib.hid hl2;have HB2:=Lib.hid hb2;clear hr2 hl2 hb2))
    go_end0
    exact beg_tt HH.out HR1.out (by rw[HX2.out];exact HR2.out) HB2.out HL2.out (by rw[HX1.out];exact HC0.out) (by rw[HX2.out];exact HE0.out)
 | true=>
   obtain⟨g1,g2,g3,s1,s2,s3,s4,s5⟩:=up_steps hs0;obtain⟨ts1,ht1⟩:∃ v,v=upTo ts:=⟨_,rfl⟩;rw[←ht1] at s4 s5;have hts1:closN x.r true ts=ts1 &&& ((2 <<< topQ x.r) - 1):=by unfold closN;rw[if_pos rfl,←hsh,←ht1]
   obtain⟨r1,r2,s6,s7,s8⟩:=top_steps s5 htop;rw[←hts1] at s8;have hcl9:=clos_lt (ke:=true) (ts:=ts) hbds;obtain⟨ts2,ht2⟩:∃ v,v=closN x.r true ts:=⟨_,rfl⟩;rw[←ht2] at s8 hcl9;have s9:=shr_div ts2 lon;obtain⟨sh2,hsh2⟩:∃ v,v=ts2 >>> lon:=⟨_,rfl⟩;rw[←hsh2] at s9;have s10:=andNot_bits (a:=ts2) (p:=2 ^ hin) hcl9 hpow2;have hlf:leftN x.r ts2=ts2 ^^^ (ts2 &&& 2 ^ hin):=by unfold leftN;rw[if_pos (by omega),hhin,Nat.one_shiftLeft]
   rw[←hlf] at s10;obtain⟨p2,hp2⟩:∃ v,v=2 ^ hin:=⟨_,rfl⟩;rw[←hp2] at s10 hpw2;obtain⟨ts3,ht3⟩:∃ v,v=leftN x.r ts2:=⟨_,rfl⟩;rw[←ht3] at s10;clear hlf hp2;have hx1:closN x.r true ts >>> x.r.lo.toNat=sh2:=by rw[hlon,←ht2,hsh2]
   have hx2:leftN x.r (closN x.r true ts)=ts3:=by rw[←ht2,ht3]
   have HX1:=Lib.hid hx1;have HX2:=Lib.hid hx2;have HBT:Hid (∀ S1 W,(S1=S∨Run Q (.fin n t) S S1)→Below c.B w0 W→Lk Q c W S1→ts3≠0→Calls Tryd.prog 62 #[.pointer (some ⟨c.L,0,none⟩),.int .i64 n,.int .i64 t,.int .u64 (ts3:Nat)] W (PostLk Q c w0 (.btn n t ts3) S1)):=Lib.hid (by have:=HH.out.btn;rw[hx2] at this;exact this);clear hx1 hx2 hts1 ht2 ht3 hsh2 s5;clear ht1;have hc0:sh2=0∨sh2≠0:=by omega
   have he0:ts3=0∨ts3≠0:=by omega
   have htop':=HT.out;obtain⟨tp,htp⟩:∃ v,v=topQ x.r:=⟨_,rfl⟩;have HTOP:Hid (∀ W,Below c.B w0 W→Calls Tryd.prog 61 #[.pointer (some (c.PA.add (n * 15)))] W fun e w'=>e= .returned (.int .i64 (tp:Nat))∧w'=W):=Lib.hid (by rw[htp];exact HH.out.top);rw[←htp] at s6 htop';clear htp htop hlo hhi hlon hsh hbds hts hs0 hcl9 hhin h2 hpow2;go_enter Tryd.func44,Tryd.ntmps44;go_wp2;go_quiet (fail);have HB3:=Lib.hid (HBD.out nq);have HL3:=Lib.hid (HLD.out nq)
   rcases hc0 with hc0 | hc0 <;> rcases he0 with he0 | he0
   ·have b1:((sh2:Int)==0)=true:=by simp;omega
    have b1':(sh2==0)=true:=by simp;omega
    have b2:((ts3:Int)==0)=true:=by simp;omega
    have b2':(ts3==0)=true:=by simp;omega
    have HC0:=Lib.hid hc0;have HE0:=Lib.hid he0;clear hc0 he0;go_wp2_with (first | (go_at_call 61;((with_reducible refine(HTOP.out _ HB3.out).mono ?_));rintro e w9 ⟨rfl,rfl⟩))
    go_end0
    exact beg_ff HH.out HB3.out HL3.out (by rw[HX1.out];exact HC0.out) (by rw[HX2.out];exact HE0.out)
   ·have b1:((sh2:Int)==0)=true:=by simp;omega
    have b1':(sh2==0)=true:=by simp;omega
    have b2:((ts3:Int)==0)=false:=by simp;omega
    have b2':(ts3==0)=false:=by simp;omega
    have HC0:=Lib.hid hc0;have HE0:=Lib.hid he0;clear hc0 he0;go_wp2_with (first | (go_at_call 61;((with_reducible refine(HTOP.out _ HB3.out).mono ?_));rintro e w9 ⟨rfl,rfl⟩) | (go_at_call 62;((with_reducible refine(HBT.out S _ (.inl rfl) HB3.out HL3.out HE0.out).mono ?_));rintro e w2 ⟨rfl,S2,hr2,hl2,hb2⟩;have HR2:=Lib.hid hr2;have HL2:=Lib.hid hl2;have HB2:=Lib.hid hb2;clear hr2 hl2 hb2))
    go_end0
    exact beg_ft HH.out (by rw[HX2.out];exact HR2.out) HB2.out HL2.out (by rw[HX1.out];exact HC0.out) (by rw[HX2.out];exact HE0.out)
   ·have b1:((sh2:Int)==0)=false:=by simp;omega
    have b1':(sh2==0)=false:=by simp;omega
    have b2:((ts3:Int)==0)=true:=by simp;omega
    have b2':(ts3==0)=true:=by simp;omega
    have HC0:=Lib.hid hc0;have HE0:=Lib.hid he0;clear hc0 he0;go_wp2_with (first | (go_at_call 61;((with_reducible refine(HTOP.out _ HB3.out).mono ?_));rintro e w9 ⟨rfl,rfl⟩) | (go_at_call 31;((with_reducible refine(HH.out.fin _ HB3.out HL3.out).mono ?_));rintro e w1 ⟨rfl,S1,hr1,hl1,hb1⟩;have HR1:=Lib.hid hr1;have HL1:=Lib.hid hl1;have HB1:=Lib.hid hb1;have a61:=(HH.out.at_ w1 hb1).a6;clear hr1 hl1 hb1))
    go_end0
    exact beg_tf HH.out HR1.out HB1.out HL1.out (by rw[HX1.out];exact HC0.out) (by rw[HX2.out];exact HE0.out)
   ·have b1:((sh2:Int)==0)=false:=by simp;omega
    have b1':(sh2==0)=false:=by simp;omega
    have b2:((ts3:Int)==0)=false:=by simp;omega
    have b2':(ts3==0)=false:=by simp;omega
    have HC0:=Lib.hid hc0;have HE0:=Lib.hid he0;clear hc0 he0;go_wp2_with (first | (go_at_call 61;((with_reducible refine(HTOP.out _ HB3.out).mono ?_));rintro e w9 ⟨rfl,rfl⟩) | (go_at_call 31;((with_reducible refine(HH.out.fin _ HB3.out HL3.out).mono ?_));rintro e w1 ⟨rfl,S1,hr1,hl1,hb1⟩;have HR1:=Lib.hid hr1;have HL1:=Lib.hid hl1;have HB1:=Lib.hid hb1;have a61:=(HH.out.at_ w1 hb1).a6;clear hr1 hl1 hb1) | (go_at_call 62;((with_reducible refine(HBT.out S1 _ (.inr HR1.out) HB1.out HL1.out HE0.out).mono ?_));rintro e w2 ⟨rfl,S2,hr2,hl2,hb2⟩;have HR2:=Lib.hid hr2;have HL2:=Lib.hid hl2;have HB2:=Lib.hid hb2;clear hr2 hl2 hb2))
    go_end0
    exact beg_tt HH.out HR1.out (by rw[HX2.out];exact HR2.out) HB2.out HL2.out (by rw[HX1.out];exact HC0.out) (by rw[HX2.out];exact HE0.out)
theorem beg_shut {Q:Pm} {c:LkP} {w0 w:World} {S:LS} {n t ts lon:Nat} {x:Nd} {kid kk:Nat} {ad:Addr} {ke:Bool} (hhi:x.r.hi= -1) (hsh0:1<ts >>> lon) (hlo:x.r.lo=lon) (hlo8:lon≤8) (hbds:Bds x.r) (hts:ts<1024) (h:BegH Q c w0 w S n t ts x (lon:Nat) (-1) kid ad kk ke):
  Calls Tryd.prog 44 #[.pointer (some ⟨c.L,0,none⟩),.int .i64 n,.int .i64 t,.int .u64 ts] w (PostLk Q c w0 (.beg n t ts) S):=by
 have HH:=Lib.hid h;have hlon:x.r.lo.toNat=lon:=by omega
 have htop:=top_le hbds;have e0:=shr_div ts lon;obtain⟨sh,hshv⟩:∃ v,v=ts >>> lon:=⟨_,rfl⟩;rw[←hshv] at e0;have b0:decide (1<(sh:Int))=true:=by simp;omega
 have b0':decide (1<sh)=true:=by simp;omega
 have hpw:=wrapU_pow hlo8;have hp8:2 ^ lon≤2 ^ 8:=Nat.pow_le_pow_right (by decide) hlo8;have hor:=or64 ts (2 ^ lon) (by omega) (by omega) rfl;obtain⟨ts0,hts0⟩:∃ v,v=ts ||| 2 ^ lon:=⟨_,rfl⟩
 have hsh:ts0=shutN x.r ts:=by unfold shutN;rw[if_pos ⟨by omega,by rw[hlon];exact hsh0⟩,hlon,Nat.one_shiftLeft,hts0]
 have hs0:ts0<1024:=by rw[hsh];exact shut_lt hbds hts
 rw[←hts0] at hor;obtain⟨p,hp⟩:∃ v,v=2 ^ lon:=⟨_,rfl⟩;rw[←hp] at hor hpw;clear hp8 hp hts0;clear hshv hsh0;obtain⟨c0,c1⟩:=h.look w S h.lk;obtain⟨a5,a6,a7,ck,ce⟩:=h.at_ w h.below
 obtain⟨hnP,hkP⟩:=h.lt;have hmd:=modeN_lt Q.B Q.E;have HBD:Hid (∀ m,Below c.B w0 (w.drewN m)):=Lib.hid fun m=>h.below.trans (below_dn _ _ _)
 have HLD:Hid (∀ m,Lk Q c (w.drewN m) S):=Lib.hid fun m=>h.lk.drews m
 obtain⟨md,hmd2⟩:∃ v,v=modeN Q.B Q.E:=⟨_,rfl⟩;rw[←hmd2] at c1 ce hmd;obtain⟨P,hP⟩:∃ v,v=Q.T.length:=⟨_,rfl⟩;rw[←hP] at c0 hnP hkP;have HT:=Lib.hid htop;clear h hmd2 hP
 cases ke with
 | false=>
   have s5:ts0<18446744073709551616:=by omega
   have hts1:closN x.r false ts=ts0 &&& ((2 <<< topQ x.r) - 1):=by unfold closN;rw[if_neg (by simp),←hsh]
   obtain⟨r1,r2,s6,s7,s8⟩:=top_steps s5 htop;rw[←hts1] at s8;have hcl9:=clos_lt (ke:=false) (ts:=ts) hbds;obtain⟨ts2,ht2⟩:∃ v,v=closN x.r false ts:=⟨_,rfl⟩;rw[←ht2] at s8 hcl9;have s9:=shr_div ts2 lon;obtain⟨sh2,hsh2⟩:∃ v,v=ts2 >>> lon:=⟨_,rfl⟩;rw[←hsh2] at s9;have hlf:leftN x.r ts2=ts2:=by unfold leftN;rw[if_neg (by omega)]
   obtain⟨ts3,ht3⟩:∃ v,v=leftN x.r ts2:=⟨_,rfl⟩;have s10:ts2=ts3:=by rw[ht3,hlf]
   clear hlf;have hx1:closN x.r false ts >>> x.r.lo.toNat=sh2:=by rw[hlon,←ht2,hsh2]
   have hx2:leftN x.r (closN x.r false ts)=ts3:=by rw[←ht2,ht3]
   have HX1:=Lib.hid hx1;have HX2:=Lib.hid hx2;have HBT:Hid (∀ S1 W,(S1=S∨Run Q (.fin n t) S S1)→Below c.B w0 W→Lk Q c W S1→ts3≠0→Calls Tryd.prog 62 #[.pointer (some ⟨c.L,0,none⟩),.int .i64 n,.int .i64 t,.int .u64 (ts3:Nat)] W (PostLk Q c w0 (.btn n t ts3) S1)):=Lib.hid (by have:=HH.out.btn;rw[hx2] at this;exact this);clear hx1 hx2 hts1 ht2 ht3 hsh2 s5;subst s10;have hc0:sh2=0∨sh2≠0:=by omega
   have he0:ts2=0∨ts2≠0:=by omega
   have htop':=HT.out;obtain⟨tp,htp⟩:∃ v,v=topQ x.r:=⟨_,rfl⟩;have HTOP:Hid (∀ W,Below c.B w0 W→Calls Tryd.prog 61 #[.pointer (some (c.PA.add (n * 15)))] W fun e w'=>e= .returned (.int .i64 (tp:Nat))∧w'=W):=Lib.hid (by rw[htp];exact HH.out.top);rw[←htp] at s6 htop';clear htp htop hlo hhi hlon hsh hbds hts hs0 hcl9;go_enter Tryd.func44,Tryd.ntmps44;go_wp2;go_quiet (fail);have HB3:=Lib.hid (HBD.out nq);have HL3:=Lib.hid (HLD.out nq)
   rcases hc0 with hc0 | hc0 <;> rcases he0 with he0 | he0
   ·have b1:((sh2:Int)==0)=true:=by simp;omega
    have b1':(sh2==0)=true:=by simp;omega
    have b2:((ts2:Int)==0)=true:=by simp;omega
    have b2':(ts2==0)=true:=by simp;omega
    have HC0:=Lib.hid hc0;have HE0:=Lib.hid he0;clear hc0 he0;go_wp2_with (first | (go_at_call 61;((with_reducible refine(HTOP.out _ HB3.out).mono ?_));rintro e w9 ⟨rfl,rfl⟩))
    go_end0
    exact beg_ff HH.out HB3.out HL3.out (by rw[HX1.out];exact HC0.out) (by rw[HX2.out];exact HE0.out)
   ·have b1:((sh2:Int)==0)=true:=by simp;omega
    have b1':(sh2==0)=true:=by simp;omega
    have b2:((ts2:Int)==0)=false:=by simp;omega
    have b2':(ts2==0)=false:=by simp;omega
    have HC0:=Lib.hid hc0;have HE0:=Lib.hid he0;clear hc0 he0;go_wp2_with (first | (go_at_call 61;((with_reducible refine(HTOP.out _ HB3.out).mono ?_));rintro e w9 ⟨rfl,rfl⟩) | (go_at_call 62;((with_reducible refine(HBT.out S _ (.inl rfl) HB3.out HL3.out HE0.out).mono ?_));rintro e w2 ⟨rfl,S2,hr2,hl2,hb2⟩;have HR2:=Lib.hid hr2;have HL2:=Lib.hid hl2;have HB2:=Lib.hid hb2;clear hr2 hl2 hb2))
    go_end0
    exact beg_ft HH.out (by rw[HX2.out];exact HR2.out) HB2.out HL2.out (by rw[HX1.out];exact HC0.out) (by rw[HX2.out];exact HE0.out)
   ·have b1:((sh2:Int)==0)=false:=by simp;omega
    have b1':(sh2==0)=false:=by simp;omega
    have b2:((ts2:Int)==0)=true:=by simp;omega
    have b2':(ts2==0)=true:=by simp;omega
    have HC0:=Lib.hid hc0;have HE0:=Lib.hid he0;clear hc0 he0;go_wp2_with (first | (go_at_call 61;((with_reducible refine(HTOP.out _ HB3.out).mono ?_));rintro e w9 ⟨rfl,rfl⟩) | (go_at_call 31;((with_reducible refine(HH.out.fin _ HB3.out HL3.out).mono ?_));rintro e w1 ⟨rfl,S1,hr1,hl1,hb1⟩;have HR1:=Lib.hid hr1;have HL1:=Lib.hid hl1;have HB1:=Lib.hid hb1;have a61:=(HH.out.at_ w1 hb1).a6;clear hr1 hl1 hb1))
    go_end0
    exact beg_tf HH.out HR1.out HB1.out HL1.out (by rw[HX1.out];exact HC0.out) (by rw[HX2.out];exact HE0.out)
   ·have b1:((sh2:Int)==0)=false:=by simp;omega
    have b1':(sh2==0)=false:=by simp;omega
    have b2:((ts2:Int)==0)=false:=by simp;omega
    have b2':(ts2==0)=false:=by simp;omega
    have HC0:=Lib.hid hc0;have HE0:=Lib.hid he0;clear hc0 he0;go_wp2_with (first | (go_at_call 61;((with_reducible refine(HTOP.out _ HB3.out).mono ?_));rintro e w9 ⟨rfl,rfl⟩) | (go_at_call 31;((with_reducible refine(HH.out.fin _ HB3.out HL3.out).mono ?_));rintro e w1 ⟨rfl,S1,hr1,hl1,hb1⟩;have HR1:=Lib.hid hr1;have HL1:=Lib.hid hl1;have HB1:=Lib.hid hb1;have a61:=(HH.out.at_ w1 hb1).a6;clear hr1 hl1 hb1) | (go_at_call 62;((with_reducible refine(HBT.out S1 _ (.inr HR1.out) HB1.out HL1.out HE0.out).mono ?_));rintro e w2 ⟨rfl,S2,hr2,hl2,hb2⟩;have HR2:=Lib.hid hr2;have HL2:=Lib.hid hl2;have HB2:=Lib.hid hb2;clear hr2 hl2 hb2))
    go_end0
    exact beg_tt HH.out HR1.out (by rw[HX2.out];exact HR2.out) HB2.out HL2.out (by rw[HX1.out];exact HC0.out) (by rw[HX2.out];exact HE0.out)
 | true=>
   obtain⟨g1,g2,g3,s1,s2,s3,s4,s5⟩:=up_steps hs0;obtain⟨ts1,ht1⟩:∃ v,v=upTo ts0:=⟨_,rfl⟩;rw[←ht1] at s4 s5;have hts1:closN x.r true ts=ts1 &&& ((2 <<< topQ x.r) - 1):=by unfold closN;rw[if_pos rfl,←hsh,←ht1]
   obtain⟨r1,r2,s6,s7,s8⟩:=top_steps s5 htop;rw[←hts1] at s8;have hcl9:=clos_lt (ke:=true) (ts:=ts) hbds;obtain⟨ts2,ht2⟩:∃ v,v=closN x.r true ts:=⟨_,rfl⟩;rw[←ht2] at s8 hcl9;have s9:=shr_div ts2 lon;obtain⟨sh2,hsh2⟩:∃ v,v=ts2 >>> lon:=⟨_,rfl⟩;rw[←hsh2] at s9;have hlf:leftN x.r ts2=ts2:=by unfold leftN;rw[if_neg (by omega)]
   obtain⟨ts3,ht3⟩:∃ v,v=leftN x.r ts2:=⟨_,rfl⟩;have s10:ts2=ts3:=by rw[ht3,hlf]
   clear hlf;have hx1:closN x.r true ts >>> x.r.lo.toNat=sh2:=by rw[hlon,←ht2,hsh2]
   have hx2:leftN x.r (closN x.r true ts)=ts3:=by rw[←ht2,ht3]
   have HX1:=Lib.hid hx1;have HX2:=Lib.hid hx2;have HBT:Hid (∀ S1 W,(S1=S∨Run Q (.fin n t) S S1)→Below c.B w0 W→Lk Q c W S1→ts3≠0→Calls Tryd.prog 62 #[.pointer (some ⟨c.L,0,none⟩),.int .i64 n,.int .i64 t,.int .u64 (ts3:Nat)] W (PostLk Q c w0 (.btn n t ts3) S1)):=Lib.hid (by have:=HH.out.btn;rw[hx2] at this;exact this);clear hx1 hx2 hts1 ht2 ht3 hsh2 s5;clear ht1;subst s10;have hc0:sh2=0∨sh2≠0:=by omega
   have he0:ts2=0∨ts2≠0:=by omega
   have htop':=HT.out;obtain⟨tp,htp⟩:∃ v,v=topQ x.r:=⟨_,rfl⟩;have HTOP:Hid (∀ W,Below c.B w0 W→Calls Tryd.prog 61 #[.pointer (some (c.PA.add (n * 15)))] W fun e w'=>e= .returned (.int .i64 (tp:Nat))∧w'=W):=Lib.hid (by rw[htp];exact HH.out.top);rw[←htp] at s6 htop';clear htp htop hlo hhi hlon hsh hbds hts hs0 hcl9;go_enter Tryd.func44,Tryd.ntmps44;go_wp2;go_quiet (fail);have HB3:=Lib.hid (HBD.out nq);have HL3:=Lib.hid (HLD.out nq)
   rcases hc0 with hc0 | hc0 <;> rcases he0 with he0 | he0
   ·have b1:((sh2:Int)==0)=true:=by simp;omega
    have b1':(sh2==0)=true:=by simp;omega
    have b2:((ts2:Int)==0)=true:=by simp;omega
    have b2':(ts2==0)=true:=by simp;omega
    have HC0:=Lib.hid hc0;have HE0:=Lib.hid he0;clear hc0 he0;go_wp2_with (first | (go_at_call 61;((with_reducible refine(HTOP.out _ HB3.out).mono ?_));rintro e w9 ⟨rfl,rfl⟩))
    go_end0
    exact beg_ff HH.out HB3.out HL3.out (by rw[HX1.out];exact HC0.out) (by rw[HX2.out];exact HE0.out)
   ·have b1:((sh2:Int)==0)=true:=by simp;omega
    have b1':(sh2==0)=true:=by simp;omega
    have b2:((ts2:Int)==0)=false:=by simp;omega
    have b2':(ts2==0)=false:=by simp;omega
    have HC0:=Lib.hid hc0;have HE0:=Lib.hid he0;clear hc0 he0;go_wp2_with (first | (go_at_call 61;((with_reducible refine(HTOP.out _ HB3.out).mono ?_));rintro e w9 ⟨rfl,rfl⟩) | (go_at_call 62;((with_reducible refine(HBT.out S _ (.inl rfl) HB3.out HL3.out HE0.out).mono ?_));rintro e w2 ⟨rfl,S2,hr2,hl2,hb2⟩;have HR2:=Lib.hid hr2;have HL2:=Lib.hid hl2;have HB2:=Lib.hid hb2;clear hr2 hl2 hb2))
    go_end0
    exact beg_ft HH.out (by rw[HX2.out];exact HR2.out) HB2.out HL2.out (by rw[HX1.out];exact HC0.out) (by rw[HX2.out];exact HE0.out)
   ·have b1:((sh2:Int)==0)=false:=by simp;omega
    have b1':(sh2==0)=false:=by simp;omega
    have b2:((ts2:Int)==0)=true:=by simp;omega
    have b2':(ts2==0)=true:=by simp;omega
    have HC0:=Lib.hid hc0;have HE0:=Lib.hid he0;clear hc0 he0;go_wp2_with (first | (go_at_call 61;((with_reducible refine(HTOP.out _ HB3.out).mono ?_));rintro e w9 ⟨rfl,rfl⟩) | (go_at_call 31;((with_reducible refine(HH.out.fin _ HB3.out HL3.out).mono ?_));rintro e w1 ⟨rfl,S1,hr1,hl1,hb1⟩;have HR1:=Lib.hid hr1;have HL1:=Lib.hid hl1;have HB1:=Lib.hid hb1;have a61:=(HH.out.at_ w1 hb1).a6;clear hr1 hl1 hb1))
    go_end0
    exact beg_tf HH.out HR1.out HB1.out HL1.out (by rw[HX1.out];exact HC0.out) (by rw[HX2.out];exact HE0.out)
   ·have b1:((sh2:Int)==0)=false:=by simp;omega
    have b1':(sh2==0)=false:=by simp;omega
    have b2:((ts2:Int)==0)=false:=by simp;omega
    have b2':(ts2==0)=false:=by simp;omega
    have HC0:=Lib.hid hc0;have HE0:=Lib.hid he0;clear hc0 he0;go_wp2_with (first | (go_at_call 61;((with_reducible refine(HTOP.out _ HB3.out).mono ?_));rintro e w9 ⟨rfl,rfl⟩) | (go_at_call 31;((with_reducible refine(HH.out.fin _ HB3.out HL3.out).mono ?_));rintro e w1 ⟨rfl,S1,hr1,hl1,hb1⟩;have HR1:=Lib.hid hr1;have HL1:=Lib.hid hl1;have HB1:=Lib.hid hb1;have a61:=(HH.out.at_ w1 hb1).a6;clear hr1 hl1 hb1) | (go_at_call 62;((with_reducible refine(HBT.out S1 _ (.inr HR1.out) HB1.out HL1.out HE0.out).mono ?_));rintro e w2 ⟨rfl,S2,hr2,hl2,hb2⟩;have HR2:=Lib.hid hr2;have HL2:=Lib.hid hl2;have HB2:=Lib.hid hb2;clear hr2 hl2 hb2))
    go_end0
    exact beg_tt HH.out HR1.out (by rw[HX2.out];exact HR2.out) HB2.out HL2.out (by rw[HX1.out];exact HC0.out) (by rw[HX2.out];exact HE0.out)
theorem beg_open {Q:Pm} {c:LkP} {w0 w:World} {S:LS} {n t ts lon:Nat} {x:Nd} {kid kk:Nat} {ad:Addr} {ke:Bool} (hhi:x.r.hi= -1) (hsh0:¬ 1<ts >>> lon) (hlo:x.r.lo=lon) (hlo8:lon≤8) (hbds:Bds x.r) (hts:ts<1024) (h:BegH Q c w0 w S n t ts x (lon:Nat) (-1) kid ad kk ke):
  Calls Tryd.prog 44 #[.pointer (some ⟨c.L,0,none⟩),.int .i64 n,.int .i64 t,.int .u64 ts] w (PostLk Q c w0 (.beg n t ts) S):=by
 have HH:=Lib.hid h;have hlon:x.r.lo.toNat=lon:=by omega
 have htop:=top_le hbds;have e0:=shr_div ts lon;obtain⟨sh,hshv⟩:∃ v,v=ts >>> lon:=⟨_,rfl⟩;rw[←hshv] at e0;have b0:decide (1<(sh:Int))=false:=by simp;omega
 have b0':decide (1<sh)=false:=by simp;omega
 have hsh:ts=shutN x.r ts:=by unfold shutN;rw[if_neg (fun q=>hsh0 (by have:=q.2;rw[hlon] at this;exact this))]
 have hs0:ts<1024:=by omega
 clear hshv hsh0;obtain⟨c0,c1⟩:=h.look w S h.lk;obtain⟨a5,a6,a7,ck,ce⟩:=h.at_ w h.below
 obtain⟨hnP,hkP⟩:=h.lt;have hmd:=modeN_lt Q.B Q.E;have HBD:Hid (∀ m,Below c.B w0 (w.drewN m)):=Lib.hid fun m=>h.below.trans (below_dn _ _ _)
 have HLD:Hid (∀ m,Lk Q c (w.drewN m) S):=Lib.hid fun m=>h.lk.drews m
 obtain⟨md,hmd2⟩:∃ v,v=modeN Q.B Q.E:=⟨_,rfl⟩;rw[←hmd2] at c1 ce hmd;obtain⟨P,hP⟩:∃ v,v=Q.T.length:=⟨_,rfl⟩;rw[←hP] at c0 hnP hkP;have HT:=Lib.hid htop;clear h hmd2 hP
 cases ke with
 | false=>
   have s5:ts<18446744073709551616:=by omega
   have hts1:closN x.r false ts=ts &&& ((2 <<< topQ x.r) - 1):=by unfold closN;rw[if_neg (by simp),←hsh]
   obtain⟨r1,r2,s6,s7,s8⟩:=top_steps s5 htop;rw[←hts1] at s8;have hcl9:=clos_lt (ke:=false) (ts:=ts) hbds;obtain⟨ts2,ht2⟩:∃ v,v=closN x.r false ts:=⟨_,rfl⟩;rw[←ht2] at s8 hcl9;have s9:=shr_div ts2 lon;obtain⟨sh2,hsh2⟩:∃ v,v=ts2 >>> lon:=⟨_,rfl⟩;rw[←hsh2] at s9;have hlf:leftN x.r ts2=ts2:=by unfold leftN;rw[if_neg (by omega)]
   obtain⟨ts3,ht3⟩:∃ v,v=leftN x.r ts2:=⟨_,rfl⟩;have s10:ts2=ts3:=by rw[ht3,hlf]
   clear hlf;have hx1:closN x.r false ts >>> x.r.lo.toNat=sh2:=by rw[hlon,←ht2,hsh2]
   have hx2:leftN x.r (closN x.r false ts)=ts3:=by rw[←ht2,ht3]
   have HX1:=Lib.hid hx1;have HX2:=Lib.hid hx2;have HBT:Hid (∀ S1 W,(S1=S∨Run Q (.fin n t) S S1)→Below c.B w0 W→Lk Q c W S1→ts3≠0→Calls Tryd.prog 62 #[.pointer (some ⟨c.L,0,none⟩),.int .i64 n,.int .i64 t,.int .u64 (ts3:Nat)] W (PostLk Q c w0 (.btn n t ts3) S1)):=Lib.hid (by have:=HH.out.btn;rw[hx2] at this;exact this);clear hx1 hx2 hts1 ht2 ht3 hsh2 s5;subst s10;have hc0:sh2=0∨sh2≠0:=by omega
   have he0:ts2=0∨ts2≠0:=by omega
   have htop':=HT.out;obtain⟨tp,htp⟩:∃ v,v=topQ x.r:=⟨_,rfl⟩;have HTOP:Hid (∀ W,Below c.B w0 W→Calls Tryd.prog 61 #[.pointer (some (c.PA.add (n * 15)))] W fun e w'=>e= .returned (.int .i64 (tp:Nat))∧w'=W):=Lib.hid (by rw[htp];exact HH.out.top);rw[←htp] at s6 htop';clear htp htop hlo hhi hlon hsh hbds hts hs0 hcl9;go_enter Tryd.func44,Tryd.ntmps44;go_wp2;go_quiet (fail);have HB3:=Lib.hid (HBD.out nq);have HL3:=Lib.hid (HLD.out nq)
   rcases hc0 with hc0 | hc0 <;> rcases he0 with he0 | he0
   ·have b1:((sh2:Int)==0)=true:=by simp;omega
    have b1':(sh2==0)=true:=by simp;omega
    have b2:((ts2:Int)==0)=true:=by simp;omega
    have b2':(ts2==0)=true:=by simp;omega
    have HC0:=Lib.hid hc0;have HE0:=Lib.hid he0;clear hc0 he0;go_wp2_with (first | (go_at_call 61;((with_reducible refine(HTOP.out _ HB3.out).mono ?_));rintro e w9 ⟨rfl,rfl⟩))
    go_end0
    exact beg_ff HH.out HB3.out HL3.out (by rw[HX1.out];exact HC0.out) (by rw[HX2.out];exact HE0.out)
   ·have b1:((sh2:Int)==0)=true:=by simp;omega
    have b1':(sh2==0)=true:=by simp;omega
    have b2:((ts2:Int)==0)=false:=by simp;omega
    have b2':(ts2==0)=false:=by simp;omega
    have HC0:=Lib.hid hc0;have HE0:=Lib.hid he0;clear hc0 he0;go_wp2_with (first | (go_at_call 61;((with_reducible refine(HTOP.out _ HB3.out).mono ?_));rintro e w9 ⟨rfl,rfl⟩) | (go_at_call 62;((with_reducible refine(HBT.out S _ (.inl rfl) HB3.out HL3.out HE0.out).mono ?_));rintro e w2 ⟨rfl,S2,hr2,hl2,hb2⟩;have HR2:=Lib.hid hr2;have HL2:=Lib.hid hl2;have HB2:=Lib.hid hb2;clear hr2 hl2 hb2))
    go_end0
    exact beg_ft HH.out (by rw[HX2.out];exact HR2.out) HB2.out HL2.out (by rw[HX1.out];exact HC0.out) (by rw[HX2.out];exact HE0.out)
   ·have b1:((sh2:Int)==0)=false:=by simp;omega
    have b1':(sh2==0)=false:=by simp;omega
    have b2:((ts2:Int)==0)=true:=by simp;omega
    have b2':(ts2==0)=true:=by simp;omega
    have HC0:=Lib.hid hc0;have HE0:=Lib.hid he0;clear hc0 he0;go_wp2_with (first | (go_at_call 61;((with_reducible refine(HTOP.out _ HB3.out).mono ?_));rintro e w9 ⟨rfl,rfl⟩) | (go_at_call 31;((with_reducible refine(HH.out.fin _ HB3.out HL3.out).mono ?_));rintro e w1 ⟨rfl,S1,hr1,hl1,hb1⟩;have HR1:=Lib.hid hr1;have HL1:=Lib.hid hl1;have HB1:=Lib.hid hb1;have a61:=(HH.out.at_ w1 hb1).a6;clear hr1 hl1 hb1))
    go_end0
    exact beg_tf HH.out HR1.out HB1.out HL1.out (by rw[HX1.out];exact HC0.out) (by rw[HX2.out];exact HE0.out)
   ·have b1:((sh2:Int)==0)=false:=by simp;omega
    have b1':(sh2==0)=false:=by simp;omega
    have b2:((ts2:Int)==0)=false:=by simp;omega
    have b2':(ts2==0)=false:=by simp;omega
    have HC0:=Lib.hid hc0;have HE0:=Lib.hid he0;clear hc0 he0;go_wp2_with (first | (go_at_call 61;((with_reducible refine(HTOP.out _ HB3.out).mono ?_));rintro e w9 ⟨rfl,rfl⟩) | (go_at_call 31;((with_reducible refine(HH.out.fin _ HB3.out HL3.out).mono ?_));rintro e w1 ⟨rfl,S1,hr1,hl1,hb1⟩;have HR1:=Lib.hid hr1;have HL1:=Lib.hid hl1;have HB1:=Lib.hid hb1;have a61:=(HH.out.at_ w1 hb1).a6;clear hr1 hl1 hb1) | (go_at_call 62;((with_reducible refine(HBT.out S1 _ (.inr HR1.out) HB1.out HL1.out HE0.out).mono ?_));rintro e w2 ⟨rfl,S2,hr2,hl2,hb2⟩;have HR2:=Lib.hid hr2;have HL2:=Lib.hid hl2;have HB2:=Lib.hid hb2;clear hr2 hl2 hb2))
    go_end0
    exact beg_tt HH.out HR1.out (by rw[HX2.out];exact HR2.out) HB2.out HL2.out (by rw[HX1.out];exact HC0.out) (by rw[HX2.out];exact HE0.out)
 | true=>
   obtain⟨g1,g2,g3,s1,s2,s3,s4,s5⟩:=up_steps hs0;obtain⟨ts1,ht1⟩:∃ v,v=upTo ts:=⟨_,rfl⟩;rw[←ht1] at s4 s5;have hts1:closN x.r true ts=ts1 &&& ((2 <<< topQ x.r) - 1):=by unfold closN;rw[if_pos rfl,←hsh,←ht1]
   obtain⟨r1,r2,s6,s7,s8⟩:=top_steps s5 htop;rw[←hts1] at s8;have hcl9:=clos_lt (ke:=true) (ts:=ts) hbds;obtain⟨ts2,ht2⟩:∃ v,v=closN x.r true ts:=⟨_,rfl⟩;rw[←ht2] at s8 hcl9;have s9:=shr_div ts2 lon;obtain⟨sh2,hsh2⟩:∃ v,v=ts2 >>> lon:=⟨_,rfl⟩;rw[←hsh2] at s9;have hlf:leftN x.r ts2=ts2:=by unfold leftN;rw[if_neg (by omega)]
   obtain⟨ts3,ht3⟩:∃ v,v=leftN x.r ts2:=⟨_,rfl⟩;have s10:ts2=ts3:=by rw[ht3,hlf]
   clear hlf;have hx1:closN x.r true ts >>> x.r.lo.toNat=sh2:=by rw[hlon,←ht2,hsh2]
   have hx2:leftN x.r (closN x.r true ts)=ts3:=by rw[←ht2,ht3]
   have HX1:=Lib.hid hx1;have HX2:=Lib.hid hx2;have HBT:Hid (∀ S1 W,(S1=S∨Run Q (.fin n t) S S1)→Below c.B w0 W→Lk Q c W S1→ts3≠0→Calls Tryd.prog 62 #[.pointer (some ⟨c.L,0,none⟩),.int .i64 n,.int .i64 t,.int .u64 (ts3:Nat)] W (PostLk Q c w0 (.btn n t ts3) S1)):=Lib.hid (by have:=HH.out.btn;rw[hx2] at this;exact this);clear hx1 hx2 hts1 ht2 ht3 hsh2 s5;clear ht1;subst s10;have hc0:sh2=0∨sh2≠0:=by omega
   have he0:ts2=0∨ts2≠0:=by omega
   have htop':=HT.out;obtain⟨tp,htp⟩:∃ v,v=topQ x.r:=⟨_,rfl⟩;have HTOP:Hid (∀ W,Below c.B w0 W→Calls Tryd.prog 61 #[.pointer (some (c.PA.add (n * 15)))] W fun e w'=>e= .returned (.int .i64 (tp:Nat))∧w'=W):=Lib.hid (by rw[htp];exact HH.out.top);rw[←htp] at s6 htop';clear htp htop hlo hhi hlon hsh hbds hts hs0 hcl9;go_enter Tryd.func44,Tryd.ntmps44;go_wp2;go_quiet (fail);have HB3:=Lib.hid (HBD.out nq);have HL3:=Lib.hid (HLD.out nq)
   rcases hc0 with hc0 | hc0 <;> rcases he0 with he0 | he0
   ·have b1:((sh2:Int)==0)=true:=by simp;omega
    have b1':(sh2==0)=true:=by simp;omega
    have b2:((ts2:Int)==0)=true:=by simp;omega
    have b2':(ts2==0)=true:=by simp;omega
    have HC0:=Lib.hid hc0;have HE0:=Lib.hid he0;clear hc0 he0;go_wp2_with (first | (go_at_call 61;((with_reducible refine(HTOP.out _ HB3.out).mono ?_));rintro e w9 ⟨rfl,rfl⟩))
    go_end0
    exact beg_ff HH.out HB3.out HL3.out (by rw[HX1.out];exact HC0.out) (by rw[HX2.out];exact HE0.out)
   ·have b1:((sh2:Int)==0)=true:=by simp;omega
    have b1':(sh2==0)=true:=by simp;omega
    have b2:((ts2:Int)==0)=false:=by simp;omega
    have b2':(ts2==0)=false:=by simp;omega
    have HC0:=Lib.hid hc0;have HE0:=Lib.hid he0;clear hc0 he0;go_wp2_with (first | (go_at_call 61;((with_reducible refine(HTOP.out _ HB3.out).mono ?_));rintro e w9 ⟨rfl,rfl⟩) | (go_at_call 62;((with_reducible refine(HBT.out S _ (.inl rfl) HB3.out HL3.out HE0.out).mono ?_));rintro e w2 ⟨rfl,S2,hr2,hl2,hb2⟩;have HR2:=Lib.hid hr2;have HL2:=Lib.hid hl2;have HB2:=Lib.hid hb2;clear hr2 hl2 hb2))
    go_end0
    exact beg_ft HH.out (by rw[HX2.out];exact HR2.out) HB2.out HL2.out (by rw[HX1.out];exact HC0.out) (by rw[HX2.out];exact HE0.out)
   ·have b1:((sh2:Int)==0)=false:=by simp;omega
    have b1':(sh2==0)=false:=by simp;omega
    have b2:((ts2:Int)==0)=true:=by simp;omega
    have b2':(ts2==0)=true:=by simp;omega
    have HC0:=Lib.hid hc0;have HE0:=Lib.hid he0;clear hc0 he0;go_wp2_with (first | (go_at_call 61;((with_reducible refine(HTOP.out _ HB3.out).mono ?_));rintro e w9 ⟨rfl,rfl⟩) | (go_at_call 31;((with_reducible refine(HH.out.fin _ HB3.out HL3.out).mono ?_));rintro e w1 ⟨rfl,S1,hr1,hl1,hb1⟩;have HR1:=Lib.hid hr1;have HL1:=Lib.hid hl1;have HB1:=Lib.hid hb1;have a61:=(HH.out.at_ w1 hb1).a6;clear hr1 hl1 hb1))
    go_end0
    exact beg_tf HH.out HR1.out HB1.out HL1.out (by rw[HX1.out];exact HC0.out) (by rw[HX2.out];exact HE0.out)
   ·have b1:((sh2:Int)==0)=false:=by simp;omega
    have b1':(sh2==0)=false:=by simp;omega
    have b2:((ts2:Int)==0)=false:=by simp;omega
    have b2':(ts2==0)=false:=by simp;omega
    have HC0:=Lib.hid hc0;have HE0:=Lib.hid he0;clear hc0 he0;go_wp2_with (first | (go_at_call 61;((with_reducible refine(HTOP.out _ HB3.out).mono ?_));rintro e w9 ⟨rfl,rfl⟩) | (go_at_call 31;((with_reducible refine(HH.out.fin _ HB3.out HL3.out).mono ?_));rintro e w1 ⟨rfl,S1,hr1,hl1,hb1⟩;have HR1:=Lib.hid hr1;have HL1:=Lib.hid hl1;have HB1:=Lib.hid hb1;have a61:=(HH.out.at_ w1 hb1).a6;clear hr1 hl1 hb1) | (go_at_call 62;((with_reducible refine(HBT.out S1 _ (.inr HR1.out) HB1.out HL1.out HE0.out).mono ?_));rintro e w2 ⟨rfl,S2,hr2,hl2,hb2⟩;have HR2:=Lib.hid hr2;have HL2:=Lib.hid hl2;have HB2:=Lib.hid hb2;clear hr2 hl2 hb2))
    go_end0
    exact beg_tt HH.out HR1.out (by rw[HX2.out];exact HR2.out) HB2.out HL2.out (by rw[HX1.out];exact HC0.out) (by rw[HX2.out];exact HE0.out)
end
theorem run_after {Q:Pm} (h:TabC Q) {tk:Tk} {S S':LS} (hr:Run Q tk S S') (hv:VT Q tk) (ho:OkS Q S) (hp:PreI Q S tk) (hs:Sml S):OkS Q S'∧KidI Q S'∧Sml S'∧left S'≤left S:=by
 have r:=run_closed h hr hv ho hp;have d:=did_run hr hs;exact⟨r.ok,r.kid,d.sml,d.left⟩
theorem begun_at {Q:Pm} (h:TabC Q) {S:LS} (ho:OkS Q S) {n:Nat} {x:Nd} (hx:Q.T[n]?=some x) (hc:x.cn≠0):∃ arr,S.begun[x.cn - 1]?=some arr:=by
 have:=h.cn n x hx;exact⟨_,List.getElem?_eq_getElem (by rw[ho.blen];omega)⟩
theorem btn_any {Q:Pm} {c:LkP} {w0 w:World} {S:LS} (hc:Ctx Q c w0) (hs:LSt Q c w0 w S) (hI:KidI Q S) (HE:∀ S',left S'≤left S→EntAt Q c w0 S') {n t ts:Nat} {x:Nd} (hx:Q.T[n]?=some x) (hcn:x.cn≠0) (hv:VN Q n t) (hts:ts<512):
  Calls Tryd.prog 62 #[.pointer (some ⟨c.L,0,none⟩),.int .i64 n,.int .i64 t,.int .u64 ts] w (PostLk Q c w0 (.btn n t ts) S):=by
 obtain⟨arr,ha⟩:=begun_at hc.tab hs.ok hx hcn;by_cases hne:arr=[]
 ·subst hne;exact btn_new hc hs hI HE hx hcn ha hv hts
 ·exact btn_old hc hs hx hcn ha hne hv hts
theorem beg_any {Q:Pm} {c:LkP} {w0 w:World} {S:LS} (hc:Ctx Q c w0) (hs:LSt Q c w0 w S) (hI:KidI Q S) (HE:∀ S',left S'≤left S→EntAt Q c w0 S') (HF:∀ S',left S'≤left S→FinAt Q c w0 S') {n t ts:Nat} {x:Nd} (hx:Q.T[n]?=some x) (hcn:x.cn≠0) (hv:VN Q n t) (hts:ts<1024):
  Calls Tryd.prog 44 #[.pointer (some ⟨c.L,0,none⟩),.int .i64 n,.int .i64 t,.int .u64 ts] w (PostLk Q c w0 (.beg n t ts) S):=by
 obtain⟨y,k1,k2,k3,k4,k5,k6⟩:=hc.tab.ok.kid1 hx (cn_6 hc.tab.ok hx hcn);obtain⟨K,kk,h15,hK⟩:=hc.part hs.below hx;obtain⟨ad,rfl,had,_⟩:=hK 0 (n+1) (by rw[k1];rfl);have hke:emptyE Q.B Q.E y.r=keOf Q.B Q.E x:=by unfold keOf;rw[k3,anyE,anyE];simp
 have H:∀ {lo hi:Int},x.r.lo=lo→x.r.hi=hi→BegH Q c w0 w S n t ts x lo hi (n+1) ad kk (emptyE Q.B Q.E y.r):=by
  intro lo hi hlo hhi;refine⟨hs.below,hs.lk,?_,?_,?_,?_,?_,⟨(List.getElem?_eq_some_iff.1 hx).1,(List.getElem?_eq_some_iff.1 k2).1⟩,hke,hx,hcn⟩
  ·rintro W S' ⟨DB,BB,ab,vw,h⟩;exact⟨h.c0,h.c1⟩
  ·intro W hb
   have hbl:∀ a:Addr,a.block<c.B→W.cell? a=w.cell? a:=fun a ha=>(hb.cell ha).trans (hs.below.cell ha).symm
   obtain⟨_,_,_,_,_,p5,p6,p7,_⟩:=h15;have hpl:(c.PA.add (n * 15)).block<c.B:=by rw[block_of_add];exact hc.parts.1
   obtain⟨K2,kk2,h2,_⟩:=hc.part hb k2;obtain⟨ad',e1,_,ck⟩:=hK 0 (n+1) (by rw[k1];rfl);injection e1 with e1;subst e1
   rw[k1] at p7;refine⟨?_,?_,(hbl ⟨(c.PA.add (n * 15)).block,_,none⟩ hpl).trans p7,?_,at15_empty h2 _ _⟩
   ·rw[←hlo];exact(hbl ⟨(c.PA.add (n * 15)).block,_,none⟩ hpl).trans p5
   ·rw[←hhi];exact(hbl ⟨(c.PA.add (n * 15)).block,_,none⟩ hpl).trans p6
   ·refine(hbl _ had).trans ?_
    rw[show ad.add 0=ad by simp[Addr.add]] at ck;exact ck
  ·intro W hb
   obtain⟨K2,kk2,h2,_⟩:=hc.part hb hx;exact top_any _ x K2 kk2 W h2 k6
  ·intro W hb hl
   exact HF S (Nat.le_refl _) W n t ⟨hb,hl,hs.ok,hs.sml⟩ hv hI
  ·intro S1 W hS hb hl hne
   have h1:OkS Q S1∧KidI Q S1∧Sml S1∧left S1≤left S:=by
    rcases hS with rfl | hr
    ·exact⟨hs.ok,hI,hs.sml,Nat.le_refl _⟩
    ·exact run_after hc.tab hr hv hs.ok hI hs.sml
   obtain⟨o1,o2,o3,o4⟩:=h1;exact btn_any hc ⟨hb,hl,o1,o3⟩ o2 (fun S' h=>HE S' (by omega)) hx hcn hv (Nat.lt_of_le_of_lt left_le (clos_lt k6))
 have hb:=k6;unfold Bds at hb;obtain⟨lon,hlon⟩:∃ lon:Nat,x.r.lo=lon:=⟨x.r.lo.toNat,by omega⟩;obtain⟨p,nx,cc,q1,_,_⟩:=hc.tab.ok.nd hx;have hcr:=hcn;rw[q1] at hcr;have hcr:=(cn_rep hcr).2;by_cases hh:x.r.hi= -1
 ·by_cases hsh:1<ts >>> lon
  ·exact beg_shut hh hsh hlon (by omega) k6 hts (H hlon hh)
  ·exact beg_open hh hsh hlon (by omega) k6 hts (H hlon hh)
 ·obtain⟨hin,hhin⟩:∃ hin:Nat,x.r.hi=hin:=⟨x.r.hi.toNat,by omega⟩
  exact beg_pos hhin (by omega) (by omega) hlon (by omega) k6 hts (H hlon hhin)
theorem LSt.alloc {Q:Pm} {c:LkP} {w0 w:World} {S:LS} (h:LSt Q c w0 w S) (o:Obj):LSt Q c w0 (w.alloc o) S:=by
 obtain⟨DB,BB,ab,vw,hl⟩:=h.lk;refine⟨h.below.alloc (by have:=hl.b1.1;have:=hl.b3.1;omega) o,⟨DB,BB,ab,vw,hl.alloc o⟩,h.ok,h.sml⟩
theorem LSt.drews {Q:Pm} {c:LkP} {w0 w:World} {S:LS} (h:LSt Q c w0 w S) (m:Nat):LSt Q c w0 (w.drewN m) S:=⟨h.below.trans (below_dn _ _ _),h.lk.drews m,h.ok,h.sml⟩
theorem Lk.l0 {Q:Pm} {c:LkP} {w:World} {S:LS} (h:Lk Q c w S):w.cell? ⟨c.L,0,none⟩=some (.slice (some c.PA) Q.T.length c.pc):=by obtain⟨_,_,_,_,h⟩:=h;exact h.c0
theorem Lk.l1 {Q:Pm} {c:LkP} {w:World} {S:LS} (h:Lk Q c w S):w.cell? ⟨c.L,1,none⟩=some (.int .i64 (modeN Q.B Q.E:Nat)):=by obtain⟨_,_,_,_,h⟩:=h;exact h.c1
theorem Lk.l2 {Q:Pm} {c:LkP} {w:World} {S:LS} (h:Lk Q c w S):w.cell? ⟨c.L,2,none⟩=some (.slice (some c.TA) Q.old c.tp):=by obtain⟨_,_,_,_,h⟩:=h;exact h.c2
theorem wrap_dbl {a:Nat} (h:a<512):IntKind.u64.wrap ((a:Int) * 2)=((2 * a:Nat):Int):=by rw[wrapU];omega
def LoopT (Q:Pm) (c:LkP) (w0:World) (S:LS) (n:Nat) (ws:List (Nat × Nat)) (i:Value) (wr:World):Prop:=
 ∃ (j:Nat) (S1:LS),j≤ws.length∧i= .int .i64 j∧(∀ S',Run Q (.begs n (ws.drop j)) S1 S'→Run Q (.begs n ws) S S')∧LSt Q c w0 wr S1∧KidI Q S1∧left S1≤left S
theorem drop_cons' {α:Type} {l:List α} {j:Nat} {x:α} (h:l[j]?=some x):l.drop j=x::l.drop (j+1):=by
 obtain⟨h1,h2⟩:=List.getElem?_eq_some_iff.1 h;rw[←h2];exact List.drop_eq_getElem_cons h1
theorem ftn_any {Q:Pm} {c:LkP} {w0 w:World} {S:LS} (hc:Ctx Q c w0) (hs:LSt Q c w0 w S) (hI:KidI Q S) (HE:∀ S',left S'≤left S→EntAt Q c w0 S') (HF:∀ S',left S'≤left S→FinAt Q c w0 S') {n t:Nat} {x:Nd} (hx:Q.T[n]?=some x) (hcn:x.cn≠0):
  Calls Tryd.prog 41 #[.pointer (some ⟨c.L,0,none⟩),.int .i64 n,.int .i64 t] w (PostLk Q c w0 (.ftn n t) S):=by
 have c2:=hs.lk.l2;by_cases hlt:t<Q.old
 ·obtain⟨ws,hws⟩:∃ ws,Q.tc[t]?=some ws:=⟨_,List.getElem?_eq_getElem (by rw[hc.tab.len];exact hlt)⟩
  obtain⟨A,cc,ct,hW⟩:=(hc.turns.keep (same_below hs.below)).2 t ws hws;have b0:decide ((Q.old:Int)≤(t:Int))=false:=by simp;omega
  have b0':decide (Q.old≤t)=false:=by simp;omega
  have HS:=Lib.hid hs;have HI:=Lib.hid hI;have HC:=Lib.hid hc;have HWS:=Lib.hid hws;obtain⟨m,hm⟩:∃ m,m=ws.length:=⟨_,rfl⟩;rw[←hm] at ct;have hm6:m≤1000000:=by rw[hm];exact hc.szs.ws t ws hws
  have HM:=Lib.hid hm;have HWM:Hid (∀ wr,Below c.B w0 wr→WsAt (Lt c.B) wr A ws):=Lib.hid fun wr hb=>hW.keep (fun a ha=>(hb.cell ha).trans (hs.below.cell ha).symm)
  have HB:Hid (∀ S1 wr t' ts',LSt Q c w0 wr S1→KidI Q S1→left S1≤left S→t'<Q.old→ts'<512→Calls Tryd.prog 44 #[.pointer (some ⟨c.L,0,none⟩),.int .i64 n,.int .i64 (t':Nat),.int .u64 ((2 * ts':Nat):Int)] wr (PostLk Q c w0 (.beg n t' (2 * ts')) S1)):=Lib.hid fun S1 wr t' ts' h1 h2 h3 h4 h5=>
   beg_any hc h1 h2 (fun S' h=>HE S' (by omega)) (fun S' h=>HF S' (by omega)) hx hcn ⟨(List.getElem?_eq_some_iff.1 hx).1,.inl h4⟩ (by omega)
  have HV:Hid (∀ w,w∈ws→w.1<Q.old∧w.2<512):=Lib.hid fun w hw=>hc.tab.tc t ws hws w hw
  have HN:Hid (Q.T[n]?=some x∧x.cn≠0):=Lib.hid ⟨hx,hcn⟩;have hlt':Hid (t<Q.old):=Lib.hid hlt;obtain⟨O,hO⟩:∃ O,O=Q.old:=⟨_,rfl⟩;rw[←hO] at c2 b0 b0' hlt;clear hs hI hc hws hm hW HE HF hx hcn hO;go_enter Tryd.func41,Tryd.ntmps41;go_wp2
  go_loopw [23] (fun i wr=>LoopT Q c w0 S n ws i wr) (fun i _=>m - (intOf i).toNat)
  case atStart=>exact⟨0,S,Nat.zero_le _,rfl,fun _ h=>h,HS.out,HI.out,Nat.le_refl _⟩
  case round=>
   obtain⟨j,S1,hj,rfl,hrun,hs1,hi1,hle⟩:=hrel;have HRUN:=Lib.hid hrun;have HS1:=Lib.hid hs1;have HI1:=Lib.hid hi1;clear hrun hs1 hi1 c2 ct;by_cases a:j<m
   ·obtain⟨⟨t',ts'⟩,hw⟩:=get_of_lt HM.out a
    obtain⟨ad,rfl,had,d0,d1⟩:=HWM.out wr HS1.out.below j _ hw;obtain⟨v1,v2⟩:=HV.out _ (List.mem_of_getElem? hw);have HW:=Lib.hid hw;have HV1:=Lib.hid v1;have HLE:=Lib.hid hle;have HA:=Lib.hid a;have e2:=wrap_dbl v2;obtain⟨z,hz⟩:∃ z,z=2 * ts':=⟨_,rfl⟩;have HZ:=Lib.hid hz;rw[←hz] at e2;have HBZ:Hid (∀ o,Calls Tryd.prog 44 #[.pointer (some ⟨c.L,0,none⟩),.int .i64 n,.int .i64 (t':Nat),.int .u64 (z:Nat)] (wr.alloc o) (PostLk Q c w0 (.beg n t' (2 * ts')) S1)):=Lib.hid fun o=>by rw[hz];exact HB.out S1 _ t' ts' (HS1.out.alloc o) HI1.out hle v1 v2
    have HNX:Hid (∀ S2,Run Q (.beg n t' (2 * ts')) S1 S2→OkS Q S2∧KidI Q S2∧Sml S2∧left S2≤left S1):=Lib.hid fun S2 hr=>run_after HC.out.tab hr ⟨⟨(List.getElem?_eq_some_iff.1 HN.out.1).1,.inl v1⟩,by omega,x,HN.out.1,HN.out.2⟩ HS1.out.ok HI1.out HS1.out.sml
    clear hw v1 v2 hz hle had;go_wp2_with (go_at_call 44;((with_reducible refine(HBZ.out _).mono ?_));rintro e w1 ⟨rfl,S2,hr2,hl2,hb2⟩)
    go_roundw
    case rel=>
     obtain⟨o1,o2,o3,o4⟩:=HNX.out S2 hr2;exact⟨j+1,S2,by have:=HM.out;have:=HA.out;omega,by go_num,fun S' h=>HRUN.out S' (by rw[drop_cons' HW.out];exact .begs_cons hr2 h),⟨hb2,hl2,o1,o3⟩,o2,by have:=HLE.out;omega⟩
    case measure=>have:=HA.out;simp[intOf];omega
   ·have hje:j=ws.length:=by have:=HM.out;omega
    have HJE:=Lib.hid hje;clear hje hle;go_wp2
    go_end0
    exact⟨rfl,S1,.ftn_old hlt'.out HWS.out (HRUN.out S1 (by rw[HJE.out,List.drop_length];exact .begs_nil)),HS1.out.lk,HS1.out.below⟩
 ·have b0:decide ((Q.old:Int)≤(t:Int))=true:=by simp;omega
  have b0':decide (Q.old≤t)=true:=by simp;omega
  have HX:Hid (PostLk Q c w0 (.ftn n t) S (.returned (.tuple #[])) w):=Lib.hid ⟨rfl,S,.ftn_new (by omega),hs.lk,hs.below⟩;obtain⟨O,hO⟩:∃ O,O=Q.old:=⟨_,rfl⟩;rw[←hO] at c2 b0 b0' hlt;clear hs hI hc HE HF hx hcn hO;go_enter Tryd.func41,Tryd.ntmps41;go_wp2
  go_end0
  exact HX.out
theorem rep_any {Q:Pm} {c:LkP} {w0 w:World} {S:LS} (hc:Ctx Q c w0) (hs:LSt Q c w0 w S) (hI:KidI Q S) (HE:∀ S',left S'≤left S→EntAt Q c w0 S') (HF:∀ S',left S'≤left S→FinAt Q c w0 S') {n t:Nat} {x:Nd} (hx:Q.T[n]?=some x) (h6:x.r.kind=6) (hv:VN Q n t):
  Calls Tryd.prog 36 #[.pointer (some ⟨c.L,0,none⟩),.int .i64 n,.int .i64 t] w (PostLk Q c w0 (.rep n t) S):=by
 obtain⟨y,k1,k2,k3,k4,k5,k6⟩:=hc.tab.ok.kid1 hx h6;obtain⟨K,kk,h15,hK⟩:=hc.part hs.below hx;obtain⟨ad,rfl,had,ck⟩:=hK 0 (n+1) (by rw[k1];rfl);rw[show ad.add 0=ad by simp[Addr.add]] at ck;have c0:=hs.lk.l0;have hnP:n<Q.T.length:=hv.1;obtain⟨P,hP⟩:∃ v,v=Q.T.length:=⟨_,rfl⟩;rw[←hP] at c0 hnP;have a5:=h15.2.2.2.2.2.1;have a6:=h15.2.2.2.2.2.2.1;have a7:=h15.2.2.2.2.2.2.2.1;have a10:=h15.2.2.2.2.2.2.2.2.2.2.1;rw[k1] at a7
 change w.cell? ⟨(c.PA.add (n * 15)).block,(c.PA.add (n * 15)).off+7,none⟩=some (.slice (some ad) 1 kk) at a7
 obtain⟨q,hq⟩:∃ v,v=x.cn:=⟨_,rfl⟩;obtain⟨lo,hlo⟩:∃ v,v=x.r.lo:=⟨_,rfl⟩;obtain⟨hi,hhi⟩:∃ v,v=x.r.hi:=⟨_,rfl⟩;rw[←hq] at a10;rw[←hlo] at a5;rw[←hhi] at a6;have hbd:=k6;unfold Bds at hbd;by_cases hcn:x.cn=0
 ·have HG:Hid (∀ W,Below c.B w0 W→W.cell? ⟨(c.PA.add (n * 15)).block,(c.PA.add (n * 15)).off+5,none⟩=some (.int .i64 lo)):=Lib.hid fun W hb=>by
   have hpl:(c.PA.add (n * 15)).block<c.B:=by rw[block_of_add];exact hc.parts.1
   exact((hb.cell (p:=⟨(c.PA.add (n * 15)).block,_,none⟩) hpl).trans (hs.below.cell (p:=⟨(c.PA.add (n * 15)).block,_,none⟩) hpl).symm).trans a5
  have vk:VN Q (n+1) t:=hv.kid hx hcn k2 (by omega) k5;have HEn:Hid (Calls Tryd.prog 24 #[.pointer (some ⟨c.L,0,none⟩),.int .i64 ((n+1:Nat):Int),.int .i64 t] w (PostLk Q c w0 (.ent (n+1) t) S)):=Lib.hid (HE S (Nat.le_refl _) w (n+1) t hs vk (KidI.mark hI hs.ok vk.1 (vk.lt hc.tab)))
  have HFi:Hid (∀ S1 W,(S1=S∨Run Q (.ent (n+1) t) S S1)→Below c.B w0 W→Lk Q c W S1→Calls Tryd.prog 31 #[.pointer (some ⟨c.L,0,none⟩),.int .i64 n,.int .i64 t] W (PostLk Q c w0 (.fin n t) S1)):=Lib.hid fun S1 W hS hb hl=>by
   have h1:OkS Q S1∧KidI Q S1∧Sml S1∧left S1≤left S:=by
    rcases hS with rfl | hr
    ·exact⟨hs.ok,hI,hs.sml,Nat.le_refl _⟩
    ·exact run_after hc.tab hr vk hs.ok (KidI.mark hI hs.ok vk.1 (vk.lt hc.tab)) hs.sml
   obtain⟨o1,o2,o3,o4⟩:=h1;exact HF S1 o4 W n t ⟨hb,hl,o1,o3⟩ hv o2
  obtain⟨m,hm⟩:∃ m,m=n+1:=⟨_,rfl⟩;rw[←hm] at ck HEn HFi;have HS:=Lib.hid hs;have hq0:q=0:=by omega
  subst hq0
  have HP1:Hid (∀ S1 S',(hi≠0→Run Q (.ent m t) S S1)→(hi=0→S1=S)→(lo=0→Run Q (.fin n t) S1 S')→(lo≠0→S'=S1)→Run Q (.rep n t) S S'):=Lib.hid fun S1 S' g1 g2 g3 g4=>by
   refine .rep_pln (S1:=S1) hx hcn (by rw[k1,←hm]) ?_ ?_ ?_ ?_
   ·rw[←hhi];exact g1
   ·rw[←hhi];exact g2
   ·rw[←hlo];exact g3
   ·rw[←hlo];exact g4
  rw[←hlo,←hhi] at hbd;by_cases hh:hi=0
  ·have hl0:lo=0:=by omega
   have HH:=Lib.hid hh;have HL:=Lib.hid hl0;have b1:(hi==0)=true:=by simp[hh]
   have b2:(lo==0)=true:=by simp[hl0]
   clear hs hI hc HE HF hx hcn h6 hv k1 k2 k3 k4 k5 k6 hK h15 hP hq hlo hhi hbd vk hm hh hl0 had;go_enter Tryd.func36,Tryd.ntmps36;go_wp2_with (go_at_call 31;((with_reducible refine(HFi.out S _ (.inl rfl) HS.out.below HS.out.lk).mono ?_));rintro e w1 ⟨rfl,S1,hr1,hl1,hb1⟩)
   go_end0
   exact⟨rfl,S1,HP1.out S S1 (fun q=>absurd HH.out q) (fun _=>rfl) (fun _=>hr1) (fun q=>absurd HL.out q),hl1,hb1⟩
  ·have HH:=Lib.hid hh
   have b1:(hi==0)=false:=by simp[hh]
   by_cases hl0:lo=0
   ·have HL:=Lib.hid hl0
    have b2:(lo==0)=true:=by simp[hl0]
    clear hs hI hc HE HF hx hcn h6 hv k1 k2 k3 k4 k5 k6 hK h15 hP hq hlo hhi hbd vk hm hh hl0 had;go_enter Tryd.func36,Tryd.ntmps36;go_wp2_with (first | (go_at_call 24;((with_reducible refine(HEn.out).mono ?_));rintro e w1 ⟨rfl,S1,hr1,hl1,hb1⟩;have HR1:=Lib.hid hr1;have HL1:=Lib.hid hl1;have HB1:=Lib.hid hb1;have a51:=HG.out w1 hb1;clear hr1 hl1 hb1) | (go_at_call 31;((with_reducible refine(HFi.out S1 _ (.inr HR1.out) HB1.out HL1.out).mono ?_));rintro e w2 ⟨rfl,S2,hr2,hl2,hb2⟩))
    go_end0
    exact⟨rfl,S2,HP1.out S1 S2 (fun _=>HR1.out) (fun q=>absurd q HH.out) (fun _=>hr2) (fun q=>absurd HL.out q),hl2,hb2⟩
   ·have HL:=Lib.hid hl0
    have b2:(lo==0)=false:=by simp[hl0]
    clear hs hI hc HE HF hx hcn h6 hv k1 k2 k3 k4 k5 k6 hK h15 hP hq hlo hhi hbd vk hm hh hl0 had;go_enter Tryd.func36,Tryd.ntmps36;go_wp2_with (go_at_call 24;((with_reducible refine(HEn.out).mono ?_));rintro e w1 ⟨rfl,S1,hr1,hl1,hb1⟩;have HR1:=Lib.hid hr1;have HL1:=Lib.hid hl1;have HB1:=Lib.hid hb1;have a51:=HG.out w1 hb1;clear hr1 hl1 hb1)
    go_end0
    exact⟨rfl,S1,HP1.out S1 S1 (fun _=>HR1.out) (fun q=>absurd q HH.out) (fun q=>absurd q HL.out) (fun _=>rfl),HL1.out,HB1.out⟩
 ·have HB:Hid (Calls Tryd.prog 44 #[.pointer (some ⟨c.L,0,none⟩),.int .i64 n,.int .i64 t,.int .u64 1] w (PostLk Q c w0 (.beg n t 1) S)):=Lib.hid (by
   have:=beg_any (ts:=1) hc hs hI HE HF hx hcn hv (by decide);exact this)
  have HP1:Hid (∀ S',Run Q (.beg n t 1) S S'→Run Q (.rep n t) S S'):=Lib.hid fun S' hr=> .rep_cnt hx hcn hr
  have b1:decide (0<(q:Int))=true:=by simp;omega
  have b1':decide (0<q)=true:=by simp;omega
  clear hs hI hc HE HF hx hcn h6 hv k1 k2 k3 k4 k5 k6 hK h15 hP hq hlo hhi hbd had;go_enter Tryd.func36,Tryd.ntmps36;go_wp2_with (go_at_call 44;((with_reducible refine(HB.out).mono ?_));rintro e w1 ⟨rfl,S1,hr1,hl1,hb1⟩)
  go_end0
  exact⟨rfl,S1,HP1.out S1 hr1,hl1,hb1⟩
end Go.Proofs.YtiafefjaldcpbaaDoor
