import Derived.Test.YtdobinjbejagcaaGreatDoorPd12
namespace Go.Proofs.YtdobinjbejagcaaGreatDoor
open Go Go.RowKit
theorem pedge_emit_fell (b:Nat) (w:World) (S:ByteArray) (A:Option Addr) (n c:Nat) (l:List Tok) (k:Nat) (many:Nat) (cap:Int) (sf sf0:Sf) (T:ByteArray) (u k2:Nat) (R4:Rp (Int × Int)) (k5 o5:Nat) (gs5:Gs) (F:Nat→Prop) (gs:Gs) (qq:Nat) (vN vG:Value) (G:EdP→Prop) (h:DocP b w S A n c l k 0 sf gs qq vN vG) (hk:k<n) (hmm:many≤1000000)
  (hs:sf++(if 8≤many then [(k,(9:Int))] else [])=sf0)
  (K1:IsPC b S A n c l 1 ⟨#[101,109,105,116]⟩ k 0 sf0 gs qq vN vG true) (K2:TexC b S A n c l T u (k+1) sf0 gs qq vN vG k2 1)
  (K4:DelP b S A n c l k2 1 R4 sf0 gs qq vN vG) (K5:ToC b S A n c l F R4.at R4.err (sf0++R4.sfs) gs qq vN vG k5 o5 gs5)
  (hG:∀ (lo hi:Int) (x:Nat),(∀ d j s g,R4= .ok d j s g→d=(lo,hi))→F x→G ⟨1,(T:ByteArray).data.toList,lo,hi,x⟩):
  Calls Tryz.prog 38 #[.pointer (some ⟨b,0,none⟩),.int .i64 many,.int .i64 cap] w (EdgC b w S A n c l vN vG G k5 o5 (sf0++R4.sfs) gs5 (qq+1)):=by
 by_cases hm:8≤many
 ·rw[if_pos hm] at hs
  exact pedge_emit_fell_big b w S A n c l k many cap sf sf0 T u k2 R4 k5 o5 gs5 F gs qq vN vG G h hk hmm hm (sofC b S A n c l k 9 (by decide) k hk sf sf0 hs gs qq vN vG) K1 K2 K4 K5 hG
 ·rw[if_neg hm,List.append_nil] at hs
  subst hs;exact pedge_emit_fell_few b w S A n c l k many cap sf T u k2 R4 k5 o5 gs5 F gs qq vN vG G h hk hmm hm K1 K2 K4 K5 hG
theorem pedge_emit_fine (b:Nat) (w:World) (S:ByteArray) (A:Option Addr) (n c:Nat) (l:List Tok) (k:Nat) (many:Nat) (cap:Int) (sf sf0:Sf) (T:ByteArray) (u k2:Nat) (R4:Rp (Int × Int)) (k5 o5:Nat) (gs5:Gs) (F:Nat→Prop) (gs:Gs) (qq:Nat) (vN vG:Value) (G:EdP→Prop) (h:DocP b w S A n c l k 0 sf gs qq vN vG) (hk:k<n) (hmm:many≤1000000)
  (hs:sf++(if 8≤many then [(k,(9:Int))] else [])=sf0)
  (K1:IsPC b S A n c l 1 ⟨#[101,109,105,116]⟩ k 0 sf0 gs qq vN vG true) (K2:TexC b S A n c l T u (k+1) sf0 gs qq vN vG k2 0)
  (ht:T.toList.isEmpty=false) (hc:¬ cap<T.size)
  (K4:DelP b S A n c l k2 0 R4 sf0 gs qq vN vG) (K5:ToC b S A n c l F R4.at R4.err (sf0++R4.sfs) gs qq vN vG k5 o5 gs5)
  (hG:∀ (lo hi:Int) (x:Nat),(∀ d j s g,R4= .ok d j s g→d=(lo,hi))→F x→G ⟨1,(T:ByteArray).data.toList,lo,hi,x⟩):
  Calls Tryz.prog 38 #[.pointer (some ⟨b,0,none⟩),.int .i64 many,.int .i64 cap] w (EdgC b w S A n c l vN vG G k5 o5 (sf0++R4.sfs) gs5 (qq+1)):=by
 by_cases hm:8≤many
 ·rw[if_pos hm] at hs
  exact pedge_emit_fine_big b w S A n c l k many cap sf sf0 T u k2 R4 k5 o5 gs5 F gs qq vN vG G h hk hmm hm (sofC b S A n c l k 9 (by decide) k hk sf sf0 hs gs qq vN vG) K1 K2 ht hc K4 K5 hG
 ·rw[if_neg hm,List.append_nil] at hs
  subst hs;exact pedge_emit_fine_few b w S A n c l k many cap sf T u k2 R4 k5 o5 gs5 F gs qq vN vG G h hk hmm hm K1 K2 ht hc K4 K5 hG
theorem pedge_emit_empty (b:Nat) (w:World) (S:ByteArray) (A:Option Addr) (n c:Nat) (l:List Tok) (k:Nat) (many:Nat) (cap:Int) (sf sf0 sf2:Sf) (u k2:Nat) (R4:Rp (Int × Int)) (k5 o5:Nat) (gs5:Gs) (F:Nat→Prop) (gs:Gs) (qq:Nat) (vN vG:Value) (G:EdP→Prop) (h:DocP b w S A n c l k 0 sf gs qq vN vG) (hk:k<n) (hmm:many≤1000000)
  (hs:sf++(if 8≤many then [(k,(9:Int))] else [])=sf0)
  (K1:IsPC b S A n c l 1 ⟨#[101,109,105,116]⟩ k 0 sf0 gs qq vN vG true) (K2:TexC b S A n c l ⟨#[]⟩ u (k+1) sf0 gs qq vN vG k2 0)
  (K3:SofC b S A n c l u 5 k2 sf0 sf2 gs qq vN vG)
  (K4:DelP b S A n c l k2 0 R4 sf2 gs qq vN vG) (K5:ToC b S A n c l F R4.at R4.err (sf2++R4.sfs) gs qq vN vG k5 o5 gs5)
  (hG:∀ (lo hi:Int) (x:Nat),(∀ d j s g,R4= .ok d j s g→d=(lo,hi))→F x→G ⟨1,(⟨#[]⟩:ByteArray).data.toList,lo,hi,x⟩):
  Calls Tryz.prog 38 #[.pointer (some ⟨b,0,none⟩),.int .i64 many,.int .i64 cap] w (EdgC b w S A n c l vN vG G k5 o5 (sf2++R4.sfs) gs5 (qq+1)):=by
 by_cases hm:8≤many
 ·rw[if_pos hm] at hs
  exact pedge_emit_empty_big b w S A n c l k many cap sf sf0 sf2 u k2 R4 k5 o5 gs5 F gs qq vN vG G h hk hmm hm (sofC b S A n c l k 9 (by decide) k hk sf sf0 hs gs qq vN vG) K1 K2 K3 K4 K5 hG
 ·rw[if_neg hm,List.append_nil] at hs
  subst hs;exact pedge_emit_empty_few b w S A n c l k many cap sf sf2 u k2 R4 k5 o5 gs5 F gs qq vN vG G h hk hmm hm K1 K2 K3 K4 K5 hG
theorem pedge_emit_long (b:Nat) (w:World) (S:ByteArray) (A:Option Addr) (n c:Nat) (l:List Tok) (k:Nat) (many:Nat) (cap:Int) (sf sf0 sf2:Sf) (T:ByteArray) (u k2:Nat) (R4:Rp (Int × Int)) (k5 o5:Nat) (gs5:Gs) (F:Nat→Prop) (gs:Gs) (qq:Nat) (vN vG:Value) (G:EdP→Prop) (h:DocP b w S A n c l k 0 sf gs qq vN vG) (hk:k<n) (hmm:many≤1000000)
  (hs:sf++(if 8≤many then [(k,(9:Int))] else [])=sf0)
  (K1:IsPC b S A n c l 1 ⟨#[101,109,105,116]⟩ k 0 sf0 gs qq vN vG true) (K2:TexC b S A n c l T u (k+1) sf0 gs qq vN vG k2 0)
  (ht:T.toList.isEmpty=false) (hc:cap<T.size)
  (K3:SofC b S A n c l u 5 k2 sf0 sf2 gs qq vN vG)
  (K4:DelP b S A n c l k2 0 R4 sf2 gs qq vN vG) (K5:ToC b S A n c l F R4.at R4.err (sf2++R4.sfs) gs qq vN vG k5 o5 gs5)
  (hG:∀ (lo hi:Int) (x:Nat),(∀ d j s g,R4= .ok d j s g→d=(lo,hi))→F x→G ⟨1,(T:ByteArray).data.toList,lo,hi,x⟩):
  Calls Tryz.prog 38 #[.pointer (some ⟨b,0,none⟩),.int .i64 many,.int .i64 cap] w (EdgC b w S A n c l vN vG G k5 o5 (sf2++R4.sfs) gs5 (qq+1)):=by
 by_cases hm:8≤many
 ·rw[if_pos hm] at hs
  exact pedge_emit_long_big b w S A n c l k many cap sf sf0 sf2 T u k2 R4 k5 o5 gs5 F gs qq vN vG G h hk hmm hm (sofC b S A n c l k 9 (by decide) k hk sf sf0 hs gs qq vN vG) K1 K2 ht hc K3 K4 K5 hG
 ·rw[if_neg hm,List.append_nil] at hs
  subst hs;exact pedge_emit_long_few b w S A n c l k many cap sf sf2 T u k2 R4 k5 o5 gs5 F gs qq vN vG G h hk hmm hm K1 K2 ht hc K3 K4 K5 hG
theorem pedge_line_fell (b:Nat) (w:World) (S:ByteArray) (A:Option Addr) (n c:Nat) (l:List Tok) (k:Nat) (many:Nat) (cap:Int) (sf sf0:Sf) (T:ByteArray) (z:Int) (u k2:Nat) (k5 o5:Nat) (gs5:Gs) (F:Nat→Prop) (gs:Gs) (qq:Nat) (vN vG:Value) (G:EdP→Prop) (h:DocP b w S A n c l k 0 sf gs qq vN vG) (hk:k<n) (hmm:many≤1000000)
  (hs:sf++(if 8≤many then [(k,(9:Int))] else [])=sf0)
  (K1:IsPC b S A n c l 1 ⟨#[101,109,105,116]⟩ k 0 sf0 gs qq vN vG false) (K6:IsPC b S A n c l 1 ⟨#[108,105,110,101]⟩ k 0 sf0 gs qq vN vG true) (K2:TexC b S A n c l T u (k+1) sf0 gs qq vN vG k2 1) (K7:GloC T z)
  (K5:ToC b S A n c l F k2 1 sf0 gs qq vN vG k5 o5 gs5)
  (hG:∀ (x:Nat),F x→G ⟨2,T.data.toList,0,0,x⟩):
  Calls Tryz.prog 38 #[.pointer (some ⟨b,0,none⟩),.int .i64 many,.int .i64 cap] w (EdgC b w S A n c l vN vG G k5 o5 sf0 gs5 (qq+1)):=by
 by_cases hm:8≤many
 ·rw[if_pos hm] at hs
  exact pedge_line_fell_big b w S A n c l k many cap sf sf0 T z u k2 k5 o5 gs5 F gs qq vN vG G h hk hmm hm (sofC b S A n c l k 9 (by decide) k hk sf sf0 hs gs qq vN vG) K1 K6 K2 K7 K5 hG
 ·rw[if_neg hm,List.append_nil] at hs
  subst hs;exact pedge_line_fell_few b w S A n c l k many cap sf T z u k2 k5 o5 gs5 F gs qq vN vG G h hk hmm hm K1 K6 K2 K7 K5 hG
theorem pedge_line_fine (b:Nat) (w:World) (S:ByteArray) (A:Option Addr) (n c:Nat) (l:List Tok) (k:Nat) (many:Nat) (cap:Int) (sf sf0:Sf) (T:ByteArray) (z:Int) (u k2:Nat) (k5 o5:Nat) (gs5:Gs) (F:Nat→Prop) (gs:Gs) (qq:Nat) (vN vG:Value) (G:EdP→Prop) (h:DocP b w S A n c l k 0 sf gs qq vN vG) (hk:k<n) (hmm:many≤1000000)
  (hs:sf++(if 8≤many then [(k,(9:Int))] else [])=sf0)
  (K1:IsPC b S A n c l 1 ⟨#[101,109,105,116]⟩ k 0 sf0 gs qq vN vG false) (K6:IsPC b S A n c l 1 ⟨#[108,105,110,101]⟩ k 0 sf0 gs qq vN vG true) (K2:TexC b S A n c l T u (k+1) sf0 gs qq vN vG k2 0) (K7:GloC T z)
  (hz:z=0)
  (K5:ToC b S A n c l F k2 0 sf0 gs qq vN vG k5 o5 gs5)
  (hG:∀ (x:Nat),F x→G ⟨2,T.data.toList,0,0,x⟩):
  Calls Tryz.prog 38 #[.pointer (some ⟨b,0,none⟩),.int .i64 many,.int .i64 cap] w (EdgC b w S A n c l vN vG G k5 o5 sf0 gs5 (qq+1)):=by
 by_cases hm:8≤many
 ·rw[if_pos hm] at hs
  exact pedge_line_fine_big b w S A n c l k many cap sf sf0 T z u k2 k5 o5 gs5 F gs qq vN vG G h hk hmm hm (sofC b S A n c l k 9 (by decide) k hk sf sf0 hs gs qq vN vG) K1 K6 K2 K7 hz K5 hG
 ·rw[if_neg hm,List.append_nil] at hs
  subst hs;exact pedge_line_fine_few b w S A n c l k many cap sf T z u k2 k5 o5 gs5 F gs qq vN vG G h hk hmm hm K1 K6 K2 K7 hz K5 hG
theorem pedge_line_wrong (b:Nat) (w:World) (S:ByteArray) (A:Option Addr) (n c:Nat) (l:List Tok) (k:Nat) (many:Nat) (cap:Int) (sf sf0 sf2:Sf) (T:ByteArray) (z:Int) (u k2:Nat) (k5 o5:Nat) (gs5:Gs) (F:Nat→Prop) (gs:Gs) (qq:Nat) (vN vG:Value) (G:EdP→Prop) (h:DocP b w S A n c l k 0 sf gs qq vN vG) (hk:k<n) (hmm:many≤1000000)
  (hs:sf++(if 8≤many then [(k,(9:Int))] else [])=sf0)
  (K1:IsPC b S A n c l 1 ⟨#[101,109,105,116]⟩ k 0 sf0 gs qq vN vG false) (K6:IsPC b S A n c l 1 ⟨#[108,105,110,101]⟩ k 0 sf0 gs qq vN vG true) (K2:TexC b S A n c l T u (k+1) sf0 gs qq vN vG k2 0) (K7:GloC T z)
  (hz:¬ z=0) (K3:SofC b S A n c l u 5 k2 sf0 sf2 gs qq vN vG)
  (K5:ToC b S A n c l F k2 0 sf2 gs qq vN vG k5 o5 gs5)
  (hG:∀ (x:Nat),F x→G ⟨2,T.data.toList,0,0,x⟩):
  Calls Tryz.prog 38 #[.pointer (some ⟨b,0,none⟩),.int .i64 many,.int .i64 cap] w (EdgC b w S A n c l vN vG G k5 o5 sf2 gs5 (qq+1)):=by
 by_cases hm:8≤many
 ·rw[if_pos hm] at hs
  exact pedge_line_wrong_big b w S A n c l k many cap sf sf0 sf2 T z u k2 k5 o5 gs5 F gs qq vN vG G h hk hmm hm (sofC b S A n c l k 9 (by decide) k hk sf sf0 hs gs qq vN vG) K1 K6 K2 K7 hz K3 K5 hG
 ·rw[if_neg hm,List.append_nil] at hs
  subst hs;exact pedge_line_wrong_few b w S A n c l k many cap sf sf2 T z u k2 k5 o5 gs5 F gs qq vN vG G h hk hmm hm K1 K6 K2 K7 hz K3 K5 hG
theorem pedge_shut (b:Nat) (w:World) (S:ByteArray) (A:Option Addr) (n c:Nat) (l:List Tok) (k:Nat) (many:Nat) (cap:Int) (sf sf0:Sf) (k1 o1:Nat) (R4:Rp (Int × Int)) (gs:Gs) (qq:Nat) (vN vG:Value) (G:EdP→Prop) (h:DocP b w S A n c l k 0 sf gs qq vN vG) (hk:k<n) (hmm:many≤1000000)
  (hs:sf++(if 8≤many then [(k,(9:Int))] else [])=sf0)
  (K1:IsPC b S A n c l 1 ⟨#[101,109,105,116]⟩ k 0 sf0 gs qq vN vG false) (K6:IsPC b S A n c l 1 ⟨#[108,105,110,101]⟩ k 0 sf0 gs qq vN vG false) (K2:NeeP b S A n c l 1 ⟨#[115,104,117,116]⟩ k 0 k1 o1 sf0 gs qq vN vG)
  (K4:DelP b S A n c l k1 o1 R4 sf0 gs qq vN vG)
  (hG:∀ (lo hi:Int),(∀ d j s g,R4= .ok d j s g→d=(lo,hi))→G ⟨3,[],lo,hi,0⟩):
  Calls Tryz.prog 38 #[.pointer (some ⟨b,0,none⟩),.int .i64 many,.int .i64 cap] w (EdgC b w S A n c l vN vG G R4.at R4.err (sf0++R4.sfs) gs qq):=by
 by_cases hm:8≤many
 ·rw[if_pos hm] at hs
  exact pedge_shut_big b w S A n c l k many cap sf sf0 k1 o1 R4 gs qq vN vG G h hk hmm hm (sofC b S A n c l k 9 (by decide) k hk sf sf0 hs gs qq vN vG) K1 K6 K2 K4 hG
 ·rw[if_neg hm,List.append_nil] at hs
  subst hs;exact pedge_shut_few b w S A n c l k many cap sf k1 o1 R4 gs qq vN vG G h hk hmm hm K1 K6 K2 K4 hG
section
theorem DocP.more {b:Nat} {w:World} {S:ByteArray} {A:Option Addr} {n c:Nat} {l:List Tok} {k o:Nat} {sf:Sf} {gs:Gs} {qq qq':Nat} {vN vG:Value} (h:DocP b w S A n c l k o sf gs qq vN vG) (hq:qq≤qq'):DocP b w S A n c l k o sf gs qq' vN vG:=by
 obtain⟨ns,ats,r1,r2,e1,e2,e3⟩:=h.own.ex;exact⟨h.c0,h.c1,h.ex,h.c4,h.ey,h.c7,h.c8,h.fr,⟨⟨ns,ats,r1,r2,e1,e2,by omega⟩,h.own.ap⟩,h.row,h.fit,h.le,h.oks,h.few⟩
theorem EdgC.conv {b:Nat} {w:World} {S:ByteArray} {A:Option Addr} {n c:Nat} {l:List Tok} {vN vG:Value} {G G':EdP→Prop} {k5 o5:Nat} {sf5 sf6:Sf} {gs5 gs6:Gs} {q5 q6:Nat} {e:Ending} {w':World} (h:EdgC b w S A n c l vN vG G k5 o5 sf5 gs5 q5 e w') (hs:o5=0→sf5=sf6) (hgs:gs5=gs6) (hq:q5≤q6) (hG:∀ e,G e→G' e):EdgC b w S A n c l vN vG G' k5 o5 sf6 gs6 q6 e w':=by
 subst hgs;obtain⟨kd,T,lo,hi,to,v1,v2,h1,h2,h3⟩:=h;exact⟨kd,T,lo,hi,to,v1,v2,h1,⟨h2.far,(h2.rd.more hq).noting _ fun o0=>by rw[hs o0],h2.fN,h2.fG⟩,hG _ h3⟩
theorem sml_gs {l:List Tok} {k j:Nat} {x:Int} {s:Sf} {g:Gs} (h:smlP l k= .ok x j s g):g=[]:=by
 unfold smlP takeP at h
 split at h
 ·simp only[Rp.then,Rp.met] at h;injection h with _ _ _ h;exact h.symm
 ·cases h
theorem then_ok2 {α β:Type} {R:Rp α} {f:α→Nat→Rp β} {y:β} {m:Nat} {s:Sf} {g:Gs} (h:R.then f= .ok y m s g):∃ x i s1 g1 s2 g2,R= .ok x i s1 g1∧f x i= .ok y m s2 g2∧s=s1++s2∧g=g1++g2:=by
 cases R with
 | bad j=>cases h
 | ok x i s1 g1=>
   simp only[Rp.then] at h
   cases hf:f x i with
   | bad j=>rw[hf] at h;cases h
   | ok y' m' s2 g2=>
     rw[hf] at h;injection h with a b c d
     subst a b;exact⟨x,i,s1,g1,s2,g2,rfl,hf,c.symm,d.symm⟩
theorem met_ok2 {α:Type} {b:Bool} {k:Nat} {e:Int} {R:Rp α} {y:α} {m:Nat} {s:Sf} {g:Gs} (h:Rp.met b k e R= .ok y m s g):∃ s',R= .ok y m s' g∧s=(if b then [(k,e)] else [])++s':=by
 cases R with
 | bad j=>cases h
 | ok x i s1 g1=>
   injection h with a b' c d
   subst a b' d;exact⟨s1,rfl,c.symm⟩
theorem del_gs {l:List Tok} {k j:Nat} {d:Int × Int} {s:Sf} {g:Gs} (h:delayP l k= .ok d j s g):g=[]:=by
 unfold delayP at h;obtain⟨_,i,s1,g1,s2,g2,h1,h2, -,rfl⟩:=then_ok2 h;obtain⟨-, -,rfl, -⟩:=need_ok h1;obtain⟨lo,i2,s3,g3,s4,g4,h3,h4, -,rfl⟩:=then_ok2 h2;obtain rfl:=sml_gs h3
 split at h4
 ·injection h4 with _ _ _ h4;rw[←h4];rfl
 ·obtain⟨hi,i3,s5,g5,s6,g6,h5,h6, -,rfl⟩:=then_ok2 h4
  obtain rfl:=sml_gs h5;obtain⟨s7,h7, -⟩:=met_ok2 h6;injection h7 with _ _ _ h7
  rw[←h7];rfl
theorem to_sf {l:List Tok} {g k j:Nat} {t:Int} {s:Sf} {gg:Gs} (h:toP l g k= .ok t j s gg):s=[]:=by
 unfold toP at h;obtain⟨_,i,s1,g1,s2,g2,h1,h2,rfl, -⟩:=then_ok2 h;obtain⟨-,rfl, -, -⟩:=need_ok h1;obtain⟨w,i2,s3,g3,s4,g4,h3,h4,rfl, -⟩:=then_ok2 h2;obtain⟨-,rfl, -, -⟩:=name_ok h3;injection h4 with _ _ h4
 rw[←h4];rfl
theorem text_bad {l:List Tok} {k j:Nat} (h:textP l k= .bad j):j=k:=by
 unfold textP at h
 split at h
 ·split at h
  ·cases h
  ·injection h with h;exact h.symm
 ·injection h with h;exact h.symm
theorem text_fit {l:List Tok} {k j:Nat} {s:Bs} {sf:Sf} {g:Gs} (hf:FitP l) (h:textP l k= .ok s j sf g):s.length≤100000:=by
 obtain⟨-, -, -,h3,h4⟩:=text_okP h;have hk:=nxp_lt (l:=l) (k:=k) (by omega);have ht:nxp l k=l[k]:=nxp_at (List.getElem?_eq_getElem hk);have hfit:=hf.fit _ (List.getElem_mem hk);rw[←ht] at hfit;unfold oneT at h4
 split at h4
 ·injection h4 with h4;rw[←h4];simp
 ·rename_i p hp
  split at h4
  ·injection h4 with h4
   rw[←h4];exact hfit.texts p (by rw[hp];simp)
  ·cases h4
 ·cases h4
section
variable {b:Nat} {w:World} {S:ByteArray} {A:Option Addr} {n c:Nat} {l:List Tok} {k:Nat} {sf:Sf} {gs:Gs} {qq:Nat} {vN vG:Value}
theorem toC (b:Nat) (S:ByteArray) (A:Option Addr) (n c:Nat) (l:List Tok) (k o:Nat) (sf:Sf) (gs:Gs) (qq:Nat) (vN vG:Value) (hq:gs.length+qq≤100000) {R:Rp Int} (hR:gateR o k (toP l gs.length k)=R):ToC b S A n c l (fun x=>∀ y j s g,R= .ok y j s g→y=x) k o sf gs qq vN vG R.at R.err (gs++R.gss):=Lib.hid fun w' h=>pto_any b w' S A n c l k o sf gs qq vN vG h hq hR
theorem texC_bad (b:Nat) (S:ByteArray) (A:Option Addr) (n c:Nat) (l:List Tok) (k:Nat) (sf:Sf) (gs:Gs) (qq:Nat) (vN vG:Value) (h:textP l k= .bad k):TexC b S A n c l ⟨#[]⟩ 0 k sf gs qq vN vG k 1:=Lib.hid fun w' h'=>
 ((texP b S A n c l k 0 sf gs qq vN vG (R:= .bad k) h).out w' h').mono fun e w2 ⟨W,u,p1,p2,_,p4⟩=>by
   obtain⟨rfl,rfl⟩:=p4 Rp.bad_ne;exact⟨p1,p2⟩
theorem texC_ok (b:Nat) (S:ByteArray) (A:Option Addr) (n c:Nat) (l:List Tok) (k:Nat) (sf:Sf) (gs:Gs) (qq:Nat) (vN vG:Value) {s:Bs} {j:Nat} {s0:Sf} {g0:Gs} (h:textP l k= .ok s j s0 g0):TexC b S A n c l ⟨s.toArray⟩ k k sf gs qq vN vG j 0:=Lib.hid fun w' h'=>
 ((texP b S A n c l k 0 sf gs qq vN vG (R:= .ok s j s0 g0) h).out w' h').mono fun e w2 ⟨W,u,p1,p2,p3,_⟩=>by
   obtain⟨rfl,rfl⟩:=p3 _ _ _ _ rfl;exact⟨p1,p2⟩
theorem met_at {α:Type} (b:Bool) (k:Nat) (e:Int) (R:Rp α):(Rp.met b k e R).at=R.at∧(Rp.met b k e R).err=R.err∧(Rp.met b k e R).gss=R.gss∧(R.err=0→(Rp.met b k e R).sfs=(if b then [(k,e)] else [])++R.sfs)∧∀ y,(∃ j s g,Rp.met b k e R= .ok y j s g) ↔ ∃ j s g,R= .ok y j s g:=by
 cases R with
 | ok x j s g=>exact⟨rfl,rfl,rfl,fun _=>rfl,fun y=>⟨fun ⟨_,_,_,h⟩=>by injection h with h;exact⟨j,s,g,by rw[h]⟩,fun ⟨_,_,_,h⟩=>by injection h with h;exact⟨j,(if b then [(k,e)] else [])++s,g,by rw[←h];rfl⟩⟩⟩
 | bad j=>exact⟨rfl,rfl,rfl,fun h=>(by cases h),fun y=>⟨fun ⟨_,_,_,h⟩=>(by cases h),fun ⟨_,_,_,h⟩=>(by cases h)⟩⟩
theorem pedge_any (many:Nat) (cap:Int) (h:DocP b w S A n c l k 0 sf gs qq vN vG) (hk:k<n) (hmm:many≤1000000) (hq:gs.length+qq≤100000) {R:Rp EdP} (hR:edgeP l cap many gs.length k=R):
  Calls Tryz.prog 38 #[.pointer (some ⟨b,0,none⟩),.int .i64 many,.int .i64 cap] w (EdgC b w S A n c l vN vG (fun e=>∀ y j s g,R= .ok y j s g→y=e) R.at R.err (sf++R.sfs) (gs++R.gss) (qq+1)):=by
 subst hR;obtain⟨sf0,hs⟩:∃ sf0,sf++(if 8≤many then [(k,(9:Int))] else [])=sf0:=⟨_,rfl⟩
 have key:∀ (R0:Rp EdP) (q5:Nat),edgeP l cap many gs.length k=Rp.met (decide (8≤many)) k 9 R0→q5≤qq+1→
   Calls Tryz.prog 38 #[.pointer (some ⟨b,0,none⟩),.int .i64 many,.int .i64 cap] w (EdgC b w S A n c l vN vG (fun e=>∀ y j s g,R0= .ok y j s g→y=e) R0.at R0.err (sf0++R0.sfs) (gs++R0.gss) q5)→
   Calls Tryz.prog 38 #[.pointer (some ⟨b,0,none⟩),.int .i64 many,.int .i64 cap] w (EdgC b w S A n c l vN vG (fun e=>∀ y j s g,edgeP l cap many gs.length k= .ok y j s g→y=e) (edgeP l cap many gs.length k).at (edgeP l cap many gs.length k).err (sf++(edgeP l cap many gs.length k).sfs) (gs++(edgeP l cap many gs.length k).gss) (qq+1)):=by
  intro R0 q5 h0 hq5 hc;rw[h0];obtain⟨m1,m2,m3,m4,m5⟩:=met_at (decide (8≤many)) k 9 R0;rw[m1,m2,m3];refine hc.mono fun e w' hE=>hE.conv (fun o0=>?_) rfl hq5 fun e hG y j s g hy=>?_
  ·rw[m4 o0,←hs]
   by_cases c8:8≤many
   ·simp[c8]
   ·simp[c8]
  ·obtain⟨j',s',g',h'⟩:=(m5 y).1 ⟨j,s,g,hy⟩
   exact hG y j' s' g' h'
 have hl:=h.len;by_cases e1:isP l 1 wEmit k=true
 ·have K1:IsPC b S A n c l 1 ⟨#[101,109,105,116]⟩ k 0 sf0 gs qq vN vG true:=isPC b S A n c l 1 (by decide) _ k 0 sf0 gs qq vN vG e1
  cases e2:textP l (k+1) with
  | bad j=>
    obtain rfl:=text_bad e2;refine key (.bad (k+1)) (qq+1) (by unfold edgeP;rw[if_pos e1,e2];rfl) (Nat.le_refl _) ?_;have K2:=texC_bad b S A n c l (k+1) sf0 gs qq vN vG e2;have K4:=delP b S A n c l (k+1) 1 sf0 gs qq vN vG (R:= .bad (k+1)) rfl;have K5:=toC b S A n c l (k+1) 1 (sf0++(Rp.bad (k+1):Rp (Int × Int)).sfs) gs qq vN vG hq (R:= .bad (k+1)) rfl;exact pedge_emit_fell b w S A n c l k many cap sf sf0 _ _ _ _ _ _ _ _ gs qq vN vG _ h hk hmm hs K1 K2 K4 K5 (fun _ _ _ _ _ y j s g hy=>by cases hy)
  | ok s j s0 g0=>
    obtain⟨rfl,rfl,rfl, -⟩:=text_okP e2;have hfit:=text_fit h.fit e2
    have hk1:k+1<n:=by
     have:=(text_okP e2).2.2.2.1;have:=nxp_lt (l:=l) (k:=k+1) (by omega);omega
    have K2:=texC_ok b S A n c l (k+1) sf0 gs qq vN vG e2;obtain⟨sf2,hs2⟩:∃ sf2,sf0++(if s=[]∨cap<s.length then [(k+1,(5:Int))] else [])=sf2:=⟨_,rfl⟩;obtain⟨R4,hR4⟩:∃ R4,gateR 0 (k+1+1) (delayP l (k+1+1))=R4:=⟨_,rfl⟩;obtain⟨R5,hR5⟩:∃ R5,gateR R4.err R4.at (toP l gs.length R4.at)=R5:=⟨_,rfl⟩;have K4:=delP b S A n c l (k+1+1) 0 sf2 gs qq vN vG hR4;have K5:=toC b S A n c l R4.at R4.err (sf2++R4.sfs) gs qq vN vG hq hR5
    have walk:Calls Tryz.prog 38 #[.pointer (some ⟨b,0,none⟩),.int .i64 many,.int .i64 cap] w (EdgC b w S A n c l vN vG (fun e=>∃ (lo hi:Int) (x:Nat),(∀ d j s g,R4= .ok d j s g→d=(lo,hi))∧(∀ y j s g,R5= .ok y j s g→y=x)∧e=⟨1,s,lo,hi,x⟩) R5.at R5.err (sf2++R4.sfs) (gs++R5.gss) (qq+1)):=by
     by_cases he:s=[]
     ·subst he
      rw[if_pos (.inl rfl)] at hs2;have K3:=sofC b S A n c l (k+1) 5 (by decide) (k+1+1) hk1 sf0 sf2 hs2 gs qq vN vG;exact pedge_emit_empty b w S A n c l k many cap sf sf0 sf2 (k+1) (k+1+1) R4 R5.at R5.err (gs++R5.gss) _ gs qq vN vG _ h hk hmm hs K1 K2 K3 K4 K5 fun lo hi x h1 h2=>⟨lo,hi,x,h1,h2,rfl⟩
     ·have ht:(⟨s.toArray⟩:ByteArray).toList.isEmpty=false:=by rw[toList_data];simpa using he
      by_cases hc:cap<s.length
      ·rw[if_pos (.inr hc)] at hs2
       have K3:=sofC b S A n c l (k+1) 5 (by decide) (k+1+1) hk1 sf0 sf2 hs2 gs qq vN vG;exact pedge_emit_long b w S A n c l k many cap sf sf0 sf2 ⟨s.toArray⟩ (k+1) (k+1+1) R4 R5.at R5.err (gs++R5.gss) _ gs qq vN vG _ h hk hmm hs K1 K2 ht (by simpa[ByteArray.size] using hc) K3 K4 K5 fun lo hi x h1 h2=>⟨lo,hi,x,h1,h2,rfl⟩
      ·rw[if_neg (by rintro(q | q);exact he q;exact hc q),List.append_nil] at hs2
       subst hs2;exact pedge_emit_fine b w S A n c l k many cap sf sf0 ⟨s.toArray⟩ (k+1) (k+1+1) R4 R5.at R5.err (gs++R5.gss) _ gs qq vN vG _ h hk hmm hs K1 K2 ht (by simpa[ByteArray.size] using hc) K4 K5 fun lo hi x h1 h2=>⟨lo,hi,x,h1,h2,rfl⟩
    refine key (Rp.met (decide (s=[]∨cap<s.length)) (k+1) 5 ((delayP l (k+1+1)).then fun d j=>(toP l gs.length j).then fun t m=> .ok ⟨1,s,d.1,d.2,t⟩ m [] [])) (qq+1) (by
     unfold edgeP;rw[if_pos e1,e2];simp only[Rp.then];generalize Rp.met (decide (s=[]∨cap<s.length)) (k+1) 5 _=X
     cases X <;> rfl) (Nat.le_refl _) ?_
    have hR4':delayP l (k+1+1)=R4:=hR4;rw[hR4']
    cases R4 with
    | bad j4=>
      have hR5':R5= .bad j4:=hR5.symm;subst hR5';exact walk.mono fun e w' hE=>hE.conv (fun o0=>by cases o0) rfl (Nat.le_refl _) fun _ _ y j s g hy=>by cases hy
    | ok d j4 s4 g4=>
      obtain rfl:=del_gs hR4';have hR5':toP l gs.length j4=R5:=hR5;simp only[Rp.then];rw[hR5']
      cases R5 with
      | bad m=>exact walk.mono fun e w' hE=>hE.conv (fun o0=>by cases o0) rfl (Nat.le_refl _) fun _ _ y j s g hy=>by cases hy
      | ok t m s5 g5=>
        obtain rfl:=to_sf hR5';refine walk.mono fun e w' hE=>hE.conv (fun _=>?_) ?_ (Nat.le_refl _) fun e' hG y j s' g' hy=>?_
        ·rw[←hs2]
         by_cases hc:s=[]∨cap<s.length
         ·simp[hc,Rp.met,Rp.sfs]
         ·simp[hc,Rp.met,Rp.sfs]
        ·simp[Rp.met,Rp.gss]
        ·obtain⟨lo,hi,x,h1,h2,rfl⟩:=hG
         have:=h1 _ _ _ _ rfl;have h2:=h2 _ _ _ _ rfl;subst this h2;simp only[Rp.met] at hy;injection hy with hy
         exact hy.symm
 ·by_cases e2:isP l 1 wLine k=true
  ·have K1:IsPC b S A n c l 1 ⟨#[101,109,105,116]⟩ k 0 sf0 gs qq vN vG false:=isPC b S A n c l 1 (by decide) _ k 0 sf0 gs qq vN vG (Bool.eq_false_iff.2 e1)
   have K6:IsPC b S A n c l 1 ⟨#[108,105,110,101]⟩ k 0 sf0 gs qq vN vG true:=isPC b S A n c l 1 (by decide) _ k 0 sf0 gs qq vN vG e2
   cases e3:textP l (k+1) with
   | bad j=>
     obtain rfl:=text_bad e3;refine key (.bad (k+1)) (qq+1) (by unfold edgeP;rw[if_neg e1,if_pos e2,e3];rfl) (Nat.le_refl _) ?_;have K2:=texC_bad b S A n c l (k+1) sf0 gs qq vN vG e3;have K5:=toC b S A n c l (k+1) 1 sf0 gs qq vN vG hq (R:= .bad (k+1)) rfl;have K7:=gloC [] (by simp);exact(pedge_line_fell b w S A n c l k many cap sf sf0 _ _ _ _ _ _ _ _ gs qq vN vG (fun e=>∀ y j s g,(Rp.bad (k+1):Rp EdP)= .ok y j s g→y=e) h hk hmm hs K1 K6 K2 K7 K5 (fun _ _ y j s g hy=>by cases hy)).mono fun e w' hE=>hE.conv (fun o0=>by cases o0) rfl (Nat.le_refl _) fun _ hG=>hG
   | ok s j s0 g0=>
     obtain⟨rfl,rfl,rfl, -⟩:=text_okP e3;have hfit:=text_fit h.fit e3
     have hk1:k+1<n:=by
      have:=(text_okP e3).2.2.2.1;have:=nxp_lt (l:=l) (k:=k+1) (by omega);omega
     have K2:=texC_ok b S A n c l (k+1) sf0 gs qq vN vG e3;have K7:=gloC s (by omega);obtain⟨sf2,hs2⟩:∃ sf2,sf0++(if globOk s then [] else [(k+1,(5:Int))])=sf2:=⟨_,rfl⟩;obtain⟨R5,hR5⟩:∃ R5,gateR 0 (k+1+1) (toP l gs.length (k+1+1))=R5:=⟨_,rfl⟩;have K5:=toC b S A n c l (k+1+1) 0 sf2 gs qq vN vG hq hR5
     have walk:Calls Tryz.prog 38 #[.pointer (some ⟨b,0,none⟩),.int .i64 many,.int .i64 cap] w (EdgC b w S A n c l vN vG (fun e=>∃ (x:Nat),(∀ y j s g,R5= .ok y j s g→y=x)∧e=⟨2,s,0,0,x⟩) R5.at R5.err sf2 (gs++R5.gss) (qq+1)):=by
      by_cases hz:(parseGl s).2.2=0
      ·rw[if_pos (show globOk s=true from decide_eq_true hz),List.append_nil] at hs2
       subst hs2;exact pedge_line_fine b w S A n c l k many cap sf sf0 ⟨s.toArray⟩ _ (k+1) (k+1+1) R5.at R5.err (gs++R5.gss) _ gs qq vN vG _ h hk hmm hs K1 K6 K2 K7 hz K5 fun x h2=>⟨x,h2,rfl⟩
      ·rw[if_neg (show ¬ globOk s=true from fun q=>hz (of_decide_eq_true q))] at hs2
       have K3:=sofC b S A n c l (k+1) 5 (by decide) (k+1+1) hk1 sf0 sf2 hs2 gs qq vN vG;exact pedge_line_wrong b w S A n c l k many cap sf sf0 sf2 ⟨s.toArray⟩ _ (k+1) (k+1+1) R5.at R5.err (gs++R5.gss) _ gs qq vN vG _ h hk hmm hs K1 K6 K2 K7 hz K3 K5 fun x h2=>⟨x,h2,rfl⟩
     refine key (Rp.met (!globOk s) (k+1) 5 ((toP l gs.length (k+1+1)).then fun t m=> .ok ⟨2,s,0,0,t⟩ m [] [])) (qq+1) (by
      unfold edgeP;rw[if_neg e1,if_pos e2,e3];simp only[Rp.then];generalize Rp.met (!globOk s) (k+1) 5 _=X
      cases X <;> rfl) (Nat.le_refl _) ?_
     have hR5':toP l gs.length (k+1+1)=R5:=hR5;rw[hR5']
     cases R5 with
     | bad m=>exact walk.mono fun e w' hE=>hE.conv (fun o0=>by cases o0) rfl (Nat.le_refl _) fun _ _ y j s g hy=>by cases hy
     | ok t m s5 g5=>
       obtain rfl:=to_sf hR5';refine walk.mono fun e w' hE=>hE.conv (fun _=>?_) ?_ (Nat.le_refl _) fun e' hG y j s' g' hy=>?_
       ·rw[←hs2]
        cases hg:globOk s <;> simp[Rp.met,Rp.then,Rp.sfs]
       ·simp[Rp.met,Rp.then,Rp.gss]
       ·obtain⟨x,h2,rfl⟩:=hG
        have h2:=h2 _ _ _ _ rfl;subst h2;simp only[Rp.met,Rp.then] at hy;injection hy with hy
        exact hy.symm
  ·have K1:IsPC b S A n c l 1 ⟨#[101,109,105,116]⟩ k 0 sf0 gs qq vN vG false:=isPC b S A n c l 1 (by decide) _ k 0 sf0 gs qq vN vG (Bool.eq_false_iff.2 e1)
   have K6:IsPC b S A n c l 1 ⟨#[108,105,110,101]⟩ k 0 sf0 gs qq vN vG false:=isPC b S A n c l 1 (by decide) _ k 0 sf0 gs qq vN vG (Bool.eq_false_iff.2 e2);have K2:=neeP b S A n c l 1 (by decide) ⟨#[115,104,117,116]⟩ k 0 sf0 gs qq vN vG (.inl rfl);have en:gateR 0 k (needP l 1 (⟨#[115,104,117,116]⟩:ByteArray).data.toList k)=needP l 1 wShut k:=rfl;rw[en] at K2;obtain⟨R4,hR4⟩:∃ R4,gateR (needP l 1 wShut k).err (needP l 1 wShut k).at (delayP l (needP l 1 wShut k).at)=R4:=⟨_,rfl⟩;have K4:=delP b S A n c l (needP l 1 wShut k).at (needP l 1 wShut k).err sf0 gs qq vN vG hR4;have walk:=pedge_shut b w S A n c l k many cap sf sf0 _ _ R4 gs qq vN vG (fun e=>∃ (lo hi:Int),(∀ d j s g,R4= .ok d j s g→d=(lo,hi))∧e=⟨3,[],lo,hi,0⟩) h hk hmm hs K1 K6 K2 K4 fun lo hi h1=>⟨lo,hi,h1,rfl⟩
   refine key ((needP l 1 wShut k).then fun _ i=>(delayP l i).then fun d j=> .ok ⟨3,[],d.1,d.2,0⟩ j [] []) qq (by unfold edgeP;rw[if_neg e1,if_neg e2]) (Nat.le_succ _) ?_;by_cases e3:isP l 1 wShut k=true
   ·have e4:needP l 1 wShut k= .ok () (k+1) [] []:=by unfold needP;rw[if_pos e3]
    rw[e4] at hR4 ⊢;have hR4':delayP l (k+1)=R4:=hR4;simp only[Rp.then];rw[hR4']
    cases R4 with
    | bad j4=>exact walk.mono fun e w' hE=>hE.conv (fun o0=>by cases o0) (List.append_nil _).symm (Nat.le_refl _) fun _ _ y j s g hy=>by cases hy
    | ok d j4 s4 g4=>
      obtain rfl:=del_gs hR4';refine walk.mono fun e w' hE=>hE.conv (fun _=>?_) ?_ (Nat.le_refl _) fun e' hG y j s' g' hy=>?_
      ·simp[Rp.sfs]
      ·simp[Rp.gss]
      ·obtain⟨lo,hi,h1,rfl⟩:=hG
       have:=h1 _ _ _ _ rfl;subst this;injection hy with hy
       exact hy.symm
   ·have e4:needP l 1 wShut k= .bad k:=by unfold needP;rw[if_neg e3]
    rw[e4] at hR4 ⊢;have hR4':R4= .bad k:=hR4.symm;subst hR4';exact walk.mono fun e w' hE=>hE.conv (fun o0=>by cases o0) (List.append_nil _).symm (Nat.le_refl _) fun _ _ y j s g hy=>by cases hy
end
end
end Go.Proofs.YtdobinjbejagcaaGreatDoor
