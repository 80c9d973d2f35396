import Derived.Test.YtngfihoempcplaaGreatDoorCf
import Derived.Test.YtngfihoempcplaaGreatDoorSc42
import Derived.Test.YtngfihoempcplaaGreatDoorEx30
import Derived.Test.YtngfihoempcplaaGreatDoorTkQ
namespace Go.Proofs.YtngfihoempcplaaGreatDoor
open Go Go.RowKit
set_option maxRecDepth 100000
set_option maxHeartbeats 8000000
abbrev TkQ (B:Nat) (w:World) (v:Value) (q:List Tv):Prop:=Tks B w w v q
theorem TkQ.beyond {B:Nat} {w w':World} {v:Value} {q:List Tv} (h:TkQ B w v q) (hb:Below w.heap.size w w'):TkQ B w' v q:=(Tks.beyond h hb).root
def WrQ (B:Nat) (w:World) (q:List Tv) (e:Ending) (w':World):Prop:=∃ v',e= .returned v'∧TkQ B w' v' q∧Below B w w'∧KeptK w w'
theorem y0e {B:Nat} {w w':World} {v v' u:Value} {q:List Tv} {t:Tok} {o:Obj} (h:TkQ B w v q) (hu:OwnP B (w.alloc o) u t.parts) (ho:w'.ownsRow B 53 5 v' (q.length+1) (cellsT q++[.int .i64 t.kind,.string ⟨t.word.toArray⟩,.int .i64 t.n,u,.int .i64 t.pl])) (hg:(w.alloc o).grownBy w' v.ownBlock):WrQ B w (q++[(t,u)]) (.returned v') w':=
 have h1:TkQ B (w.alloc o) v q:=h.beyond (z0b w o)
 ⟨v',rfl,(Tks.token h1 hu ho hg).root,((Below.refl B w).alloc h.size o).grown hg h1.size (fun k hk=>(h1.row.lt k hk).1),(KeptK.alloc w o).trans (KeptK.grown h1.row hg)⟩
def nilV:Value:= .slice none 0 0
def tWordS (S:BA):Tok:=⟨1,S.data.toList,0,[],0⟩
def tSignS (S:BA):Tok:=⟨4,S.data.toList,0,[],0⟩
def tFlagS (S:BA):Tok:=⟨5,S.data.toList,0,[],0⟩
theorem z35 (B:Nat) (w:World) (v:Value) (q:List Tv) (S:BA) (h:TkQ B w v q) (hl:q.length≤900000):
  Cz 90 #[v,S] w (WrQ B w (q++[(tWordS S,nilV)])):=by
 have H:=zz h;obtain⟨i0,hi0,hz0,hz1,hz2⟩:=info_parts infoT;clear h;go_enter Tryz.func90,Tryz.ntmps90;go_wp2_with (at_builtin;refine wpList_append_own _ rfl (.tmp 5) (.tmp 8) 45 rfl B 53 i0 (.agg #[oZ,oS,oZ,(),oZ]) 5 64 Tryz.underlying45 hi0 hz0 hz1 hz2 rfl (by decide) _ _ _ rfl (H.out.alloc _).row ⟨w.heap.size,0,none⟩ 1 1 [iI 1,S,oZ,(),oZ] rfl rfl (fun j u hu=>z0k w 53 #[iI 1,S,oZ,(),oZ] j u hu) (z4c _ _ _ _ _ _ _) (by unfold maxLen;omega) (by omega) (H.out.alloc _).size ?_;intro v2 w3 hown' hgrow _);go_ret;exact y0e (t:=tWordS S) H.out (World.ownsRow_nil _ _ _ _) hown' hgrow
theorem z63 (B:Nat) (w:World) (v:Value) (q:List Tv) (S:BA) (h:TkQ B w v q) (hl:q.length≤900000):
  Cz 120 #[v,S] w (WrQ B w (q++[(tSignS S,nilV)])):=by
 have H:=zz h;obtain⟨i0,hi0,hz0,hz1,hz2⟩:=info_parts infoT;clear h;go_enter Tryz.func120,Tryz.ntmps120;go_wp2_with (at_builtin;refine wpList_append_own _ rfl (.tmp 5) (.tmp 8) 45 rfl B 53 i0 (.agg #[oZ,oS,oZ,(),oZ]) 5 64 Tryz.underlying45 hi0 hz0 hz1 hz2 rfl (by decide) _ _ _ rfl (H.out.alloc _).row ⟨w.heap.size,0,none⟩ 1 1 [iI 4,S,oZ,(),oZ] rfl rfl (fun j u hu=>z0k w 53 #[iI 4,S,oZ,(),oZ] j u hu) (z4c _ _ _ _ _ _ _) (by unfold maxLen;omega) (by omega) (H.out.alloc _).size ?_;intro v2 w3 hown' hgrow _);go_ret;exact y0e (t:=tSignS S) H.out (World.ownsRow_nil _ _ _ _) hown' hgrow
theorem z71 (B:Nat) (w:World) (v:Value) (q:List Tv) (S:BA) (h:TkQ B w v q) (hl:q.length≤900000):
  Cz 143 #[v,S] w (WrQ B w (q++[(tFlagS S,nilV)])):=by
 have H:=zz h;obtain⟨i0,hi0,hz0,hz1,hz2⟩:=info_parts infoT;clear h;go_enter Tryz.func143,Tryz.ntmps143;go_wp2_with (at_builtin;refine wpList_append_own _ rfl (.tmp 5) (.tmp 8) 45 rfl B 53 i0 (.agg #[oZ,oS,oZ,(),oZ]) 5 64 Tryz.underlying45 hi0 hz0 hz1 hz2 rfl (by decide) _ _ _ rfl (H.out.alloc _).row ⟨w.heap.size,0,none⟩ 1 1 [iI 5,S,oZ,(),oZ] rfl rfl (fun j u hu=>z0k w 53 #[iI 5,S,oZ,(),oZ] j u hu) (z4c _ _ _ _ _ _ _) (by unfold maxLen;omega) (by omega) (H.out.alloc _).size ?_;intro v2 w3 hown' hgrow _);go_ret;exact y0e (t:=tFlagS S) H.out (World.ownsRow_nil _ _ _ _) hown' hgrow
theorem y1f (B:Nat) (w:World) (hB:B≤w.heap.size):
  Cz 145 #[.string ⟨#[97,42]⟩] w fun e w'=>∃ g,e= .returned (.slice (some ⟨g,0,none⟩) 1 1)∧OwnP B w' (.slice (some ⟨g,0,none⟩) 1 1) [([],[97,42])]∧Below w.heap.size w w':=by
 go_enter Tryz.func145,Tryz.ntmps145;go_wp2;go_ret;exact⟨_,rfl,World.ownsRow_lit w #[oS,.string ⟨#[97,42]⟩] 1 hB (by decide) rfl,z0b w _⟩
theorem KeptK.boxL {w w':World} {T:TypeId} {vs:List Value} (h:KeptK (w.alloc (.cells vs.toArray T)) w') (ht:T≠53):BoxL w' w.heap.size vs:=by
 have hk:(w.alloc (.cells vs.toArray T)).heap[w.heap.size]?=some (.cells vs.toArray T (0,0)):=y9b w _;have e:w'.heap[w.heap.size]?=(w.alloc (.cells vs.toArray T)).heap[w.heap.size]?:=by rw[h.2 _ _ _ hk ht,hk]
 have b:=BoxL.new w T vs;exact⟨fun j u hu=>(World.cell?_of_block (a:=⟨w.heap.size,j,none⟩) e).trans (b.at_ j u hu),fun j hj=>(World.frozen?_of_block (a:=⟨w.heap.size,j,none⟩) e).trans (b.fr j hj)⟩
theorem WrQ.trans {B:Nat} {w w1 w2:World} {q:List Tv} {e:Ending} (hb:Below B w w1) (hk:KeptK w w1) (h:WrQ B w1 q e w2):WrQ B w q e w2:=by
 obtain⟨v,h1,h2,h3,h4⟩:=h;exact⟨v,h1,h2,hb.trans h3,hk.trans h4⟩
theorem TkQ.below_alloc {B:Nat} {w:World} {v:Value} {q:List Tv} (h:TkQ B w v q) (o:Obj):Below B w (w.alloc o):=(Below.refl B w).alloc h.size o
theorem y7f (B:Nat) (w:World) (v:Value) (q:List Tv) (A:OA) (nb cb:Nat) (pl:Int) (h:TkQ B w v q) (hl:q.length≤900000):
  Cz 122 #[v,.agg #[iI 3,iI (-1),oZ,oS,.slice A nb cb,pl]] w (WrQ B w (q++[(tWordS ⟨#[101,111,102]⟩,nilV)])):=by
 have KW:Hid (∀ w',Cz 144 #[iI 3] w' fun e w2=>e= .returned (.string ⟨#[101,111,102]⟩)∧w'=w2):=zz fun w'=>y2b 3 (by omega) w'
 have KA:Hid (∀ w',TkQ B w' v q→Cz 90 #[v,.string ⟨#[101,111,102]⟩] w' (WrQ B w' (q++[(tWordS ⟨#[101,111,102]⟩,nilV)]))):=zz fun w' h'=>z35 B w' v q _ h' hl
 have H:=zz h;clear h;go_enter Tryz.func122,Tryz.ntmps122;go_wp2_with (first | (go_at_call 144;go_must ((with_reducible refine(KW.out _).mono ?_);rintro e w1 ⟨rfl,rfl⟩)) | (go_at_call 90;go_must ((with_reducible refine(KA.out _ (H.out.beyond (z0b w _))).mono ?_);rintro e w2 ⟨v2,rfl,hq2,hb2,hk2⟩;have HR:=zz (WrQ.trans (H.out.below_alloc _) (KeptK.alloc w _) ⟨v2,rfl,hq2,hb2,hk2⟩:WrQ B w (q++[(tWordS ⟨#[101,111,102]⟩,nilV)]) (.returned v2) w2);clear hq2 hb2 hk2)));go_ret;exact HR.out
def tTextS:Tok:=⟨3,[],0,[([],[97,42])],0⟩
theorem x1t (B:Nat) (w:World) (v:Value) (q:List Tv) (A:OA) (nb cb:Nat) (pl:Int) (h:TkQ B w v q) (hl:q.length≤800000):
  Cz 122 #[v,.agg #[iI 1,iI (-1),iI 2,.string ⟨#[97,42]⟩,.slice A nb cb,pl]] w fun e w'=>∃ u,WrQ B w (q++[(tFlagS ⟨#[114,101]⟩,nilV)]++[(tTextS,u)]) e w':=by
 have KF:Hid (∀ w',Cz 138 #[iI 2] w' fun e w2=>e= .returned (.string ⟨#[114,101]⟩)∧w'=w2):=zz fun w'=>z3y 2 (by omega) w'
 have KA:Hid (∀ w',TkQ B w' v q→Cz 143 #[v,.string ⟨#[114,101]⟩] w' (WrQ B w' (q++[(tFlagS ⟨#[114,101]⟩,nilV)]))):=zz fun w' h'=>z71 B w' v q _ h' (by omega)
 have KP:Hid (∀ w',B≤w'.heap.size→Cz 145 #[.string ⟨#[97,42]⟩] w' fun e w2=>∃ g,e= .returned (.slice (some ⟨g,0,none⟩) 1 1)∧OwnP B w2 (.slice (some ⟨g,0,none⟩) 1 1) [([],[97,42])]∧Below w'.heap.size w' w2):=zz fun w' hb=>y1f B w' hb
 have H:=zz h;have hl1:(q++[(tFlagS ⟨#[114,101]⟩,nilV)]).length≤900000:=by simp;omega
 obtain⟨q1,hq1⟩:∃ q1,q1=q++[(tFlagS ⟨#[114,101]⟩,nilV)]:=⟨_,rfl⟩;rw[←hq1] at KA hl1 ⊢;obtain⟨i0,hi0,hz0,hz1,hz2⟩:=info_parts infoT;have HBX:Hid (∀ W',KeptK (w.alloc (.cells #[iI 1,iI (-1),iI 2,.string ⟨#[97,42]⟩,.slice A nb cb,pl] 65)) W'→BoxL W' w.heap.size [iI 1,iI (-1),iI 2,.string ⟨#[97,42]⟩,.slice A nb cb,pl]):=zz fun W' hk=>hk.boxL (T:=65) (by decide)
 have HN:Hid (Below B w (w.alloc (.cells #[iI 1,iI (-1),iI 2,.string ⟨#[97,42]⟩,.slice A nb cb,pl] 65))∧KeptK w (w.alloc (.cells #[iI 1,iI (-1),iI 2,.string ⟨#[97,42]⟩,.slice A nb cb,pl] 65))∧TkQ B (w.alloc (.cells #[iI 1,iI (-1),iI 2,.string ⟨#[97,42]⟩,.slice A nb cb,pl] 65)) v q):=zz ⟨h.below_alloc _,KeptK.alloc w _,h.beyond (z0b w _)⟩;clear h hq1;go_enter Tryz.func122,Tryz.ntmps122;go_wp2;obtain⟨V,hV⟩:∃ V,V=w.alloc (.cells #[iI 1,iI (-1),iI 2,.string ⟨#[97,42]⟩,.slice A nb cb,pl] 65):=⟨_,rfl⟩;rw[←hV] at HBX HN ⊢;clear hV;have y2:=(HBX.out _ (KeptK.drew V)).at_ 2 _ rfl
 have y3:=(HBX.out _ (KeptK.drew V)).at_ 3 _ rfl
 go_region_held3 (fun W'=>W'.cell? ⟨w.heap.size,2,none⟩=some (.int .i64 2)∧W'.cell? ⟨w.heap.size,3,none⟩=some (.string ⟨#[97,42]⟩))
  (first | (with_reducible exact⟨y2,y3⟩) | (with_reducible exact⟨z2,z3⟩) | (with_reducible exact⟨x2,x3⟩) | (with_reducible exact⟨u2 _,u3 _⟩) | (with_reducible exact⟨t2,t3⟩))
  (first
   | (go_at_call 138;go_must ((with_reducible refine(KF.out _).mono ?_);rintro e w1 ⟨rfl,rfl⟩))
   | (go_at_call 143;go_must ((with_reducible refine(KA.out _ (HN.out.2.2.beyond (bR.drew))).mono ?_);rintro e W1 ⟨v1,rfl,hq2,hb2,hk2⟩;have HA:Hid (TkQ B W1 v1 q1∧Below B w W1∧KeptK V W1):=zz ⟨hq2,HN.out.1.trans (bR.drew.trans hb2),(KeptK.drew V).trans hk2⟩;have z2:=(HBX.out _ HA.out.2.2).at_ 2 _ rfl;have z3:=(HBX.out _ HA.out.2.2).at_ 3 _ rfl;clear hq2 hb2 hk2))
   | (go_at_call 145;go_must ((with_reducible refine(KP.out _ HA.out.1.size).mono ?_);rintro e W2 ⟨u,rfl,hu,hb3⟩;have HU:Hid (OwnP B W2 (.slice (some ⟨u,0,none⟩) 1 1) [([],[97,42])]):=zz hu;have HC:Hid (TkQ B W2 v1 q1∧Below B w W2∧KeptK V W2):=zz ⟨HA.out.1.beyond hb3,HA.out.2.1.trans (hb3.mono HA.out.1.size),HA.out.2.2.trans (KeptK.below hb3)⟩;have x2:=(HBX.out _ HC.out.2.2).at_ 2 _ rfl;have x3:=(HBX.out _ HC.out.2.2).at_ 3 _ rfl;have u2:=fun o=>(HBX.out _ (HC.out.2.2.trans (KeptK.alloc W2 o))).at_ 2 _ rfl;have u3:=fun o=>(HBX.out _ (HC.out.2.2.trans (KeptK.alloc W2 o))).at_ 3 _ rfl;clear hu hb3))
   | (refine step_append_lies _ rfl (.tmp 26) (.tmp 32) 45 rfl B 53 i0 (.agg #[oZ,oS,oZ,(),oZ]) 5 64 Tryz.underlying45 hi0 hz0 hz1 hz2 rfl (by decide) _ q1.length (cellsT q1) rfl (HC.out.1.beyond (z0b W2 _)).row ⟨W2.heap.size,0,none⟩ 1 1 [iI 3,oS,oZ,.slice (some ⟨u,0,none⟩) 1 1,oZ] rfl (by rfl) (fun j u' hu=>z0k W2 53 #[iI 3,oS,oZ,.slice (some ⟨u,0,none⟩) 1 1,oZ] j u' hu) (z4c _ _ _ _ _ _ _) (by decide) (by unfold maxLen;omega) (by omega) (HC.out.1.beyond (z0b W2 _)).size _ rfl ?_;intro g5 cap5 w5 hown' hgrow hat hlt9;have HG:=zz (HC.out.2.2.trans ((KeptK.alloc W2 _).trans (KeptK.grown (HC.out.1.beyond (z0b W2 _)).row hgrow)));have t2:=(HBX.out _ HG.out).at_ 2 _ rfl;have t3:=(HBX.out _ HG.out).at_ 3 _ rfl))
 go_wp2;go_ret;exact⟨_,WrQ.trans HC.out.2.1 (HN.out.2.1.trans HC.out.2.2) (y0e (t:=tTextS) HC.out.1 (World.ownsRow.alloc HU.out _) hown' hgrow)⟩
def TkT (B:Nat) (w:World) (v:Value) (T:List Tok):Prop:=∃ q,q.map (·.1)=T∧TkQ B w v q
def WrT (B:Nat) (w:World) (T:List Tok) (e:Ending) (w':World):Prop:=∃ v',e= .returned v'∧TkT B w' v' T∧Below B w w'∧KeptK w w'
theorem WrQ.wrT {B:Nat} {w w':World} {q:List Tv} {e:Ending} (h:WrQ B w q e w'):WrT B w (q.map (·.1)) e w':=by
 obtain⟨v,h1,h2,h3,h4⟩:=h;exact⟨v,h1,⟨q,rfl,h2⟩,h3,h4⟩
theorem TkT.beyond {B:Nat} {w w':World} {v:Value} {T:List Tok} (h:TkT B w v T) (hb:Below w.heap.size w w'):TkT B w' v T:=by
 obtain⟨q,h1,h2⟩:=h;exact⟨q,h1,h2.beyond hb⟩
theorem TkT.size {B:Nat} {w:World} {v:Value} {T:List Tok} (h:TkT B w v T):B≤w.heap.size:=by
 obtain⟨q,h1,h2⟩:=h;exact Tks.size h2
theorem TkT.nil (w:World):TkT w.heap.size w (.slice none 0 0) []:=⟨[],rfl,Tks.nil w⟩
theorem z9l {T:List Tok} {q:List Tv} (h:q.map (·.1)=T):q.length=T.length:=by rw[←h,List.length_map]
theorem y1u (B:Nat) (w:World) (v:Value) (T:List Tok) (S:BA) (h:TkT B w v T) (hl:T.length≤800000):Cz 90 #[v,S] w (WrT B w (T++[tWordS S])):=by
 obtain⟨q,h1,h2⟩:=h;refine(z35 B w v q S h2 (by rw[z9l h1];omega)).mono fun e w' h'=>?_
 have:=h'.wrT;rw[List.map_append,h1] at this;exact this
theorem z5n (B:Nat) (w:World) (v:Value) (T:List Tok) (S:BA) (h:TkT B w v T) (hl:T.length≤800000):Cz 120 #[v,S] w (WrT B w (T++[tSignS S])):=by
 obtain⟨q,h1,h2⟩:=h;refine(z63 B w v q S h2 (by rw[z9l h1];omega)).mono fun e w' h'=>?_
 have:=h'.wrT;rw[List.map_append,h1] at this;exact this
theorem y8h (B:Nat) (w:World) (v:Value) (T:List Tok) (A:OA) (nb cb:Nat) (pl:Int) (h:TkT B w v T) (hl:T.length≤800000):
  Cz 122 #[v,.agg #[iI 3,iI (-1),oZ,oS,.slice A nb cb,pl]] w (WrT B w (T++[tWordS ⟨#[101,111,102]⟩])):=by
 obtain⟨q,h1,h2⟩:=h;refine(y7f B w v q A nb cb pl h2 (by rw[z9l h1];omega)).mono fun e w' h'=>?_
 have:=h'.wrT;rw[List.map_append,h1] at this;exact this
theorem x0r (B:Nat) (w:World) (v:Value) (T:List Tok) (A:OA) (nb cb:Nat) (pl:Int) (h:TkT B w v T) (hl:T.length≤800000):
  Cz 122 #[v,.agg #[iI 1,iI (-1),iI 2,.string ⟨#[97,42]⟩,.slice A nb cb,pl]] w (WrT B w (T++[tFlagS ⟨#[114,101]⟩,tTextS])):=by
 obtain⟨q,h1,h2⟩:=h;refine(x1t B w v q A nb cb pl h2 (by rw[z9l h1];omega)).mono fun e w' h'=>?_
 obtain⟨u,h'⟩:=h';have:=h'.wrT;rw[List.map_append,List.map_append,h1,List.append_assoc] at this;exact this
def APc (B N:Nat) (x:Cm) (t:List Tok):Prop:=∀ (w:World) (v:Value) (T:List Tok) (lk:Lk),TkT B w v T→T.length≤N→KidC (LtX B) w lk x→Cz 43 #[v,valC x lk] w (WrT B w (T++t))
def APl (B M:Nat) (ks:List Cm) (t:List Tok):Prop:=∀ (w:World) (v:Value) (T:List Tok) (A:OA) (c:Nat),TkT B w v T→T.length≤M→RowC (LtX B) w A ks→Cz 28 #[v,.slice A ks.length c] w (WrT B w (T++t))
theorem z5u (B N M:Nat) (hNM:M+50000≤N) (ks:List Cm) (tk:Cm→List Tok) (ih:∀ x∈ks,APc B N x (tk x)) (hm:(ks.flatMap tk).length≤50000) (hl:ks.length≤1000000):APl B M ks (ks.flatMap tk):=by
 intro w v T A c h hT hk;obtain⟨m,hmm⟩:∃ m,m=ks.length:=⟨_,rfl⟩;rw[←hmm] at hl ⊢
 have hpre:∀ j,((ks.take j).flatMap tk).length≤50000:=fun j=>by
  have e:(ks.flatMap tk)=(ks.take j).flatMap tk++(ks.drop j).flatMap tk:=by rw[←List.flatMap_append,List.take_append_drop]
  have:=congrArg List.length e;rw[List.length_append] at this;omega
 have HM:=zz hmm;have HK:=zz hk;have HI:=zz ih;have HP:=zz hpre;have HT:=zz hT;have H:=zz h;clear hmm hk ih hpre hm h hT;go_enter Tryz.func28,Tryz.ntmps28;go_wp2
 go_loopw [0,9] (fun out i wr=>∃ j:Nat,j≤m∧i= .int .i64 j∧Hid (TkT B wr out (T++(ks.take j).flatMap tk))∧Below B w wr∧KeptK w wr) (fun _ i _=>m - (intOf i).toNat)
 case atStart=>exact⟨0,by omega,rfl,zz (by simpa using H.out),Below.refl _ _,KeptK.refl _⟩
 case round=>
  obtain⟨j,hj,rfl,HQ,hb,hkk⟩:=hrel;obtain⟨V,hV⟩:∃ V,V=wr:=⟨_,rfl⟩;subst hV;have HB:=zz hb;have HKK:=zz hkk;by_cases a:j<m
  ·obtain⟨r,hr⟩:=z0t HM.out a
   have hkV:RowC (LtX B) V A ks:=HK.out.of (fun _ h=>hb.cell h) (fun _ h=>h)
   rcases hkV with hkV | ⟨ad,rfl,hp,hlv⟩
   ·rw[hkV] at hr;cases hr
   obtain⟨lk,h9,hkr⟩:=z2o.1 hlv j r hr;rw[Nat.zero_add] at h9;obtain⟨lp,lcp,lx,lcx,lb,lcb,le,lce,lu,lcu⟩:=lk;have hmem:=List.mem_of_getElem? hr;have hsz:=HQ.out.size
   have KM:Hid (∀ w' v',TkT B w' v' (T++(ks.take j).flatMap tk)→Below V.heap.size V w'→Cz 43 #[v',.agg #[r.kind,r.name,r.n,.slice lp r.parts.length lcp,r.cond.kind,r.cond.n,r.cond.name,r.cond.op,.slice lx r.cond.kids.length lcx,.slice lb r.body.length lcb,.slice le r.els.length lce,.slice lu r.rules.length lcu,r.pl]] w' (WrT B w' (T++(ks.take (j+1)).flatMap tk))):=zz fun w' v' ht hw=>by
    have e:(ks.take (j+1)).flatMap tk=(ks.take j).flatMap tk++tk r:=by
     rw[List.take_add_one,hr,List.flatMap_append];simp
    rw[e,←List.append_assoc];exact HI.out r hmem w' v' _ ⟨lp,lcp,lx,lcx,lb,lcb,le,lce,lu,lcu⟩ ht (by have:=HP.out j;have:=HT.out;rw[List.length_append];omega) (hkr.of (fun p h=>(hw.mono hsz).cell h) fun _ h=>h)
   have hbt:(ad.add (j * 13)).block<V.heap.size:=by rw[z0p];exact Nat.lt_of_lt_of_le hp hsz
   have h9:LieL V (ad.add (j * 13)) [r.kind,r.name,r.n,.slice lp r.parts.length lcp,r.cond.kind,r.cond.n,r.cond.name,r.cond.op,.slice lx r.cond.kids.length lcx,.slice lb r.body.length lcb,.slice le r.els.length lce,.slice lu r.rules.length lcu,r.pl]:=h9;obtain⟨c0,c1,c2,c3,c4,c5,c6,c7,c8,c9,c10,c11,c12⟩:=h9.at13;clear hr hmem hkr h9 hp hb hlv hkk;go_wp2_with (go_at_call 43;go_must ((with_reducible refine(KM.out _ _ (HQ.out.beyond (z0b V _)) (z0b V _)).mono ?_);rintro e w3 ⟨v3,rfl,hq3,hb3,hk3⟩;have HB3:Hid (TkT B w3 v3 (T++(ks.take (j+1)).flatMap tk)∧Below B w w3∧KeptK w w3):=zz ⟨hq3,(HB.out.trans ((z0b V _).mono hsz)).trans hb3,(HKK.out.trans (KeptK.alloc V _)).trans hk3⟩;clear hq3 hb3 hk3))
   go_roundw
   case rel=>exact⟨j+1,by omega,by go_num,zz HB3.out.1,HB3.out.2.1,HB3.out.2.2⟩
   case measure=>simp[intOf];omega
  ·have HE:Hid (ks.take j=ks):=zz (List.take_of_length_le (by have:=HM.out;omega))
   rw[HE.out] at HQ;go_wp2;go_ret;exact⟨_,rfl,HQ.out,HB.out,HKK.out⟩
theorem y61 (B:Nat) (ks:List Cm) (t:List Tok) (K:APl B 400000 ks t) (ht:t.length≤90000) (w:World) (v:Value) (T:List Tok) (A:OA) (c:Nat) (h:TkT B w v T) (hT:T.length≤300000) (hk:RowC (LtX B) w A ks):
  Cz 93 #[v,.slice A ks.length c] w (WrT B w (T++[tSignS ⟨#[123]⟩]++t++[tSignS ⟨#[125]⟩])):=by
 have K1:Hid (Cz 120 #[v,.string ⟨#[123]⟩] w (WrT B w (T++[tSignS ⟨#[123]⟩]))):=zz (z5n B w v T _ h (by omega));have hl1:(T++[tSignS ⟨#[123]⟩]).length≤300001:=by simp;omega
 obtain⟨T1,hT1⟩:∃ T1,T1=T++[tSignS ⟨#[123]⟩]:=⟨_,rfl⟩;rw[←hT1] at K1 hl1 ⊢;have K2:Hid (∀ w' v',TkT B w' v' T1→Below B w w'→Cz 28 #[v',.slice A ks.length c] w' (WrT B w' (T1++t))):=zz fun w' v' h' hb=>K w' v' T1 A c h' (by omega) (hk.of (fun _ h=>hb.cell h) fun _ h=>h)
 have hl2:(T1++t).length≤400001:=by rw[List.length_append];omega
 obtain⟨T2,hT2⟩:∃ T2,T2=T1++t:=⟨_,rfl⟩;rw[←hT2] at K2 hl2 ⊢;have K3:Hid (∀ w' v',TkT B w' v' T2→Cz 120 #[v',.string ⟨#[125]⟩] w' (WrT B w' (T2++[tSignS ⟨#[125]⟩]))):=zz fun w' v' h'=>z5n B w' v' T2 _ h' (by omega)
 clear K hk h hT1 hT2 hT ht hl1 hl2;go_enter Tryz.func93,Tryz.ntmps93;go_wp2_with (first | (go_at_call 28;go_must ((with_reducible refine(K2.out _ _ HA.out.1 HA.out.2.1).mono ?_);rintro e w2 ⟨v2,rfl,hq2,hb2,hk2⟩;have HC:Hid (TkT B w2 v2 T2∧Below B w w2∧KeptK w w2):=zz ⟨hq2,HA.out.2.1.trans hb2,HA.out.2.2.trans hk2⟩;clear hq2 hb2 hk2)) | (go_at_call 120;((with_reducible refine(K3.out _ _ HC.out.1).mono ?_);rintro e w3 ⟨v3,rfl,hq3,hb3,hk3⟩;have HD:Hid (TkT B w3 v3 (T2++[tSignS ⟨#[125]⟩])∧Below B w w3∧KeptK w w3):=zz ⟨hq3,HC.out.2.1.trans hb3,HC.out.2.2.trans hk3⟩;clear hq3 hb3 hk3)) | (go_at_call 120;((with_reducible refine K1.out.mono ?_);rintro e w1 ⟨v1,rfl,hq1,hb1,hk1⟩;have HA:Hid (TkT B w1 v1 T1∧Below B w w1∧KeptK w w1):=zz ⟨hq1,hb1,hk1⟩;clear hq1 hb1 hk1)));go_ret;exact⟨_,rfl,HD.out.1,HD.out.2.1,HD.out.2.2⟩
def APr (B:Nat) (r:Ru) (t:List Tok):Prop:=∃ th tb,t=th++([tSignS ⟨#[123]⟩]++tb++[tSignS ⟨#[125]⟩])∧th.length≤1000∧tb.length≤90000∧APl B 400000 r.body tb∧
 ∀ (w:World) (v:Value) (T:List Tok) (A:OA) (c:Nat),TkT B w v T→T.length≤290000→Cz 122 #[v,valR r A c] w (WrT B w (T++th))
theorem y21 (B:Nat) (ks:List Ru) (tk:Ru→List Tok) (ih:∀ x∈ks,APr B x (tk x)) (hm:(ks.flatMap tk).length≤100000) (hl:ks.length≤1000000) (w:World) (v:Value) (T:List Tok) (A:OA) (c:Nat) (h:TkT B w v T) (hT:T.length≤100000) (hk:RowU (LtX B) w A ks):
  Cz 94 #[v,.slice A ks.length c] w (WrT B w (T++[tSignS ⟨#[123]⟩]++ks.flatMap tk++[tSignS ⟨#[125]⟩])):=by
 obtain⟨m,hmm⟩:∃ m,m=ks.length:=⟨_,rfl⟩;rw[←hmm] at hl ⊢
 have hpre:∀ j,((ks.take j).flatMap tk).length≤100000:=fun j=>by
  have e:(ks.flatMap tk)=(ks.take j).flatMap tk++(ks.drop j).flatMap tk:=by rw[←List.flatMap_append,List.take_append_drop]
  have:=congrArg List.length e;rw[List.length_append] at this;omega
 have K1:Hid (Cz 120 #[v,.string ⟨#[123]⟩] w (WrT B w (T++[tSignS ⟨#[123]⟩]))):=zz (z5n B w v T _ h (by omega));have hl1:(T++[tSignS ⟨#[123]⟩]).length≤100001:=by simp;omega
 obtain⟨T1,hT1⟩:∃ T1,T1=T++[tSignS ⟨#[123]⟩]:=⟨_,rfl⟩;rw[←hT1] at K1 hl1 ⊢;have K3:Hid (∀ w' v',TkT B w' v' (T1++ks.flatMap tk)→Cz 120 #[v',.string ⟨#[125]⟩] w' (WrT B w' (T1++ks.flatMap tk++[tSignS ⟨#[125]⟩]))):=zz fun w' v' h'=>z5n B w' v' _ _ h' (by rw[List.length_append];omega)
 have HM:=zz hmm;have HK:=zz hk;have HI:=zz ih;have HP:=zz hpre;have HT:=zz hl1;clear hmm hk ih hpre hm h hT hT1 hl1;go_enter Tryz.func94,Tryz.ntmps94;go_wp2_with (go_at_call 120;((with_reducible refine K1.out.mono ?_);rintro e w1 ⟨v1,rfl,hq1,hb1,hk1⟩;have HA:Hid (TkT B w1 v1 T1∧Below B w w1∧KeptK w w1):=zz ⟨hq1,hb1,hk1⟩;clear hq1 hb1 hk1))
 go_loopw [0,11] (fun out i wr=>∃ (j:Nat) (x:Value),j≤m∧i= .int .i64 j∧x=out∧Hid (TkT B wr x (T1++(ks.take j).flatMap tk))∧Below B w wr∧KeptK w wr) (fun _ i _=>m - (intOf i).toNat)
 case atStart=>exact⟨0,_,by omega,rfl,rfl,zz (by simpa using HA.out.1),HA.out.2.1,HA.out.2.2⟩
 case round=>
  obtain⟨j,x,hj,rfl,rfl,HQ,hb,hkk⟩:=hrel;obtain⟨V,hV⟩:∃ V,V=wr:=⟨_,rfl⟩;subst hV;have HB:=zz hb;have HKK:=zz hkk;by_cases a:j<m
  ·obtain⟨r,hr⟩:=z0t HM.out a
   have hkV:RowU (LtX B) V A ks:=HK.out.of (fun _ h=>hb.cell h) (fun _ h=>h)
   rcases hkV with hkV | ⟨ad,rfl,hp,hlv⟩
   ·rw[hkV] at hr;cases hr
   obtain⟨lb,lcb,h9,hkr⟩:=z2r.1 hlv j r hr;rw[Nat.zero_add] at h9;have hmem:=List.mem_of_getElem? hr;have hsz:=HQ.out.size;obtain⟨th,tb,et,hth,htb,hbody,hhead⟩:=HI.out r hmem
   have e:(ks.take (j+1)).flatMap tk=(ks.take j).flatMap tk++tk r:=by
    rw[List.take_add_one,hr,List.flatMap_append];simp
   have hpj:=HP.out j;have htj:=HT.out;have KH:Hid (∀ w' v',TkT B w' v' (T1++(ks.take j).flatMap tk)→Cz 122 #[v',.agg #[r.kind,r.peer,r.pk,r.pt,.slice lb r.body.length lcb,r.pl]] w' (WrT B w' (T1++(ks.take j).flatMap tk++th))):=zz fun w' v' ht=>hhead w' v' _ lb lcb ht (by rw[List.length_append];omega)
   have KB:Hid (∀ w' v',TkT B w' v' (T1++(ks.take j).flatMap tk++th)→Below B V w'→Cz 93 #[v',.slice lb r.body.length lcb] w' (WrT B w' (T1++(ks.take (j+1)).flatMap tk))):=zz fun w' v' ht hw=>by
    have:=y61 B r.body tb hbody htb w' v' _ lb lcb ht (by rw[List.length_append,List.length_append];omega) (z2j.1 (hkr.of (fun p h=>hw.cell h) fun _ h=>h));rw[e,et];simpa[List.append_assoc] using this
   have hbt:(ad.add (j * 6)).block<V.heap.size:=by rw[z0p];exact Nat.lt_of_lt_of_le hp hsz
   have h9:LieL V (ad.add (j * 6)) [r.kind,r.peer,r.pk,r.pt,.slice lb r.body.length lcb,r.pl]:=h9;obtain⟨c0,c1,c2,c3,c4,c5⟩:=h9.at6;have HBX:Hid (∀ W',KeptK (V.alloc (.cells #[r.kind,r.peer,r.pk,r.pt,.slice lb r.body.length lcb,r.pl] 65)) W'→BoxL W' V.heap.size [r.kind,r.peer,r.pk,r.pt,.slice lb r.body.length lcb,r.pl]):=zz fun W' hk=>hk.boxL (T:=65) (by decide)
   have HN:Hid (Below B V (V.alloc (.cells #[r.kind,r.peer,r.pk,r.pt,.slice lb r.body.length lcb,r.pl] 65))∧KeptK V (V.alloc (.cells #[r.kind,r.peer,r.pk,r.pt,.slice lb r.body.length lcb,r.pl] 65))∧TkT B (V.alloc (.cells #[r.kind,r.peer,r.pk,r.pt,.slice lb r.body.length lcb,r.pl] 65)) x (T1++(ks.take j).flatMap tk)):=zz ⟨(z0b V _).mono hsz,KeptK.alloc V _,HQ.out.beyond (z0b V _)⟩;clear hr hmem hkr h9 hp hb hlv hkk e et hth htb hbody hhead hpj htj;go_wp2;obtain⟨U,hU⟩:∃ U,U=V.alloc (.cells #[r.kind,r.peer,r.pk,r.pt,.slice lb r.body.length lcb,r.pl] 65):=⟨_,rfl⟩;rw[←hU] at HBX HN ⊢;clear hU;obtain⟨y0,y1,y2,y3,y4,y5⟩:=(HBX.out _ (KeptK.drew U)).all6
   go_region_held3 (fun W'=>W'.cell? ⟨V.heap.size,0,none⟩=some (.int .i64 r.kind)∧W'.cell? ⟨V.heap.size,1,none⟩=some (.int .i64 r.peer)∧W'.cell? ⟨V.heap.size,2,none⟩=some (.int .i64 r.pk)∧W'.cell? ⟨V.heap.size,3,none⟩=some (.string ⟨r.pt.toArray⟩)∧W'.cell? ⟨V.heap.size,4,none⟩=some (.slice lb r.body.length lcb)∧W'.cell? ⟨V.heap.size,5,none⟩=some (.int .i64 r.pl))
    (first | (with_reducible exact⟨y0,y1,y2,y3,y4,y5⟩) | (with_reducible exact Z) | (with_reducible exact X))
    (first
     | (go_at_call 122;go_must ((with_reducible refine(KH.out _ _ (HN.out.2.2.beyond (bR.drew))).mono ?_);rintro e W1 ⟨v1,rfl,hq2,hb2,hk2⟩;have HC:Hid (TkT B W1 v1 (T1++(ks.take j).flatMap tk++th)∧Below B V W1∧KeptK U W1):=zz ⟨hq2,HN.out.1.trans ((bR.drew.mono (by have:=HN.out.2.2.size;omega)).trans hb2),(KeptK.drew U).trans hk2⟩;have Z:=(HBX.out _ HC.out.2.2).all6;clear hq2 hb2 hk2))
     | (go_at_call 93;go_must ((with_reducible refine(KB.out _ _ HC.out.1 HC.out.2.1).mono ?_);rintro e W2 ⟨v2,rfl,hq3,hb3,hk3⟩;have HE:Hid (TkT B W2 v2 (T1++(ks.take (j+1)).flatMap tk)∧Below B w W2∧KeptK w W2):=zz ⟨hq3,HB.out.trans (HC.out.2.1.trans hb3),HKK.out.trans (HN.out.2.1.trans (HC.out.2.2.trans hk3))⟩;have X:=(HBX.out _ (HC.out.2.2.trans hk3)).all6;clear hq3 hb3 hk3)))
   go_wp2
   go_roundw
   case rel=>exact⟨j+1,_,by omega,by go_num,rfl,zz HE.out.1,HE.out.2.1,HE.out.2.2⟩
   case measure=>simp[intOf];omega
  ·have HE:Hid (ks.take j=ks):=zz (List.take_of_length_le (by have:=HM.out;omega))
   rw[HE.out] at HQ;go_wp2_with (go_at_call 120;((with_reducible refine(K3.out _ _ HQ.out).mono ?_);rintro e w3 ⟨v3,rfl,hq3,hb3,hk3⟩;have HD:Hid (TkT B w3 v3 (T1++ks.flatMap tk++[tSignS ⟨#[125]⟩])∧Below B w w3∧KeptK w w3):=zz ⟨hq3,HB.out.trans hb3,HKK.out.trans hk3⟩;clear hq3 hb3 hk3));go_ret;exact⟨_,rfl,HD.out.1,HD.out.2.1,HD.out.2.2⟩
theorem x3y (B:Nat) (p:Int):APc B 500000 (.mk 16 [] 0 [] exNone [] [] [] p) [tWordS ⟨#[101,120,105,116]⟩]:=by
 intro w v T lk h hT hk;obtain⟨lp,lcp,lx,lcx,lb,lcb,le,lce,lu,lcu⟩:=lk;show Cz 43 #[v,.agg #[iI 16,oS,oZ,.slice lp 0 lcp,oZ,oZ,oS,oS,.slice lx 0 lcx,.slice lb 0 lcb,.slice le 0 lce,.slice lu 0 lcu,p]] w _;have KO:FofC 16 ⟨#[101,120,105,116]⟩ 0:=zz fun w'=>z02 16 (by omega) w'
 unfold FofC at KO;have KA:Hid (∀ w',TkT B w' v T→Cz 90 #[v,.string ⟨#[101,120,105,116]⟩] w' (WrT B w' (T++[tWordS ⟨#[101,120,105,116]⟩]))):=zz fun w' h'=>y1u B w' v T _ h' (by omega)
 have HN:Hid (∀ o,Below B w (w.alloc o)∧KeptK w (w.alloc o)∧TkT B (w.alloc o) v T):=zz fun o=>⟨(z0b w o).mono h.size,KeptK.alloc w _,h.beyond (z0b w o)⟩
 clear h hk hT;go_enter Tryz.func43,Tryz.ntmps43;go_wp2_with (first | (go_at_call 55;go_must ((with_reducible refine(KO.out _).mono ?_);rintro e w1 ⟨rfl,rfl⟩)) | (go_at_call 90;go_must ((with_reducible refine(KA.out _ (HN.out _).2.2).mono ?_);rintro e w2 ⟨v2,rfl,hq2,hb2,hk2⟩;have HC:Hid (TkT B w2 v2 (T++[tWordS ⟨#[101,120,105,116]⟩])∧Below B w w2∧KeptK w w2):=zz ⟨hq2,(HN.out _).1.trans hb2,(HN.out _).2.1.trans hk2⟩;clear hq2 hb2 hk2)));go_ret;exact⟨_,rfl,HC.out.1,HC.out.2.1,HC.out.2.2⟩
theorem x3q (B:Nat) (u:List Ru) (p:Int) (tk:Ru→List Tok) (ih:∀ x∈u,APr B x (tk x)) (hm:(u.flatMap tk).length≤100000) (hl:u.length≤1000000) (w:World) (v:Value) (T:List Tok) (lk:Lk) (h:TkT B w v T) (hT:T.length≤90000) (hk:KidC (LtX B) w lk (.mk 12 [] 0 [] exNone [] [] u p)):
  Cz 43 #[v,valC (.mk 12 [] 0 [] exNone [] [] u p) lk] w (WrT B w (T++[tWordS ⟨#[101,120,112,101,99,116]⟩]++[tSignS ⟨#[123]⟩]++u.flatMap tk++[tSignS ⟨#[125]⟩])):=by
 obtain⟨lp,lcp,lx,lcx,lb,lcb,le,lce,lu,lcu⟩:=lk;have hku:RowU (LtX B) w lu u:=(z0u.1 hk).2.2.2.2;show Cz 43 #[v,.agg #[iI 12,oS,oZ,.slice lp 0 lcp,oZ,oZ,oS,oS,.slice lx 0 lcx,.slice lb 0 lcb,.slice le 0 lce,.slice lu u.length lcu,p]] w _;have KO:FofC 12 ⟨#[101,120,112,101,99,116]⟩ 64:=zz fun w'=>z02 12 (by omega) w'
 unfold FofC at KO;have KA:Hid (∀ w',TkT B w' v T→Cz 90 #[v,.string ⟨#[101,120,112,101,99,116]⟩] w' (WrT B w' (T++[tWordS ⟨#[101,120,112,101,99,116]⟩]))):=zz fun w' h'=>y1u B w' v T _ h' (by omega)
 have hl1:(T++[tWordS ⟨#[101,120,112,101,99,116]⟩]).length≤100000:=by simp;omega
 obtain⟨T1,hT1⟩:∃ T1,T1=T++[tWordS ⟨#[101,120,112,101,99,116]⟩]:=⟨_,rfl⟩;rw[←hT1] at KA hl1 ⊢;have KR:Hid (∀ w' v',TkT B w' v' T1→Below B w w'→Cz 94 #[v',.slice lu u.length lcu] w' (WrT B w' (T1++[tSignS ⟨#[123]⟩]++u.flatMap tk++[tSignS ⟨#[125]⟩]))):=zz fun w' v' h' hb=>y21 B u tk ih hm hl w' v' T1 lu lcu h' hl1 (hku.of (fun _ h=>hb.cell h) fun _ h=>h)
 have HN:Hid (∀ o,Below B w (w.alloc o)∧KeptK w (w.alloc o)∧TkT B (w.alloc o) v T):=zz fun o=>⟨(z0b w o).mono h.size,KeptK.alloc w _,h.beyond (z0b w o)⟩
 have HBX:Hid (∀ W',KeptK (w.alloc (.cells #[iI 12,oS,oZ,.slice lp 0 lcp,oZ,oZ,oS,oS,.slice lx 0 lcx,.slice lb 0 lcb,.slice le 0 lce,.slice lu u.length lcu,p] 41)) W'→BoxL W' w.heap.size [iI 12,oS,oZ,.slice lp 0 lcp,oZ,oZ,oS,oS,.slice lx 0 lcx,.slice lb 0 lcb,.slice le 0 lce,.slice lu u.length lcu,p]):=zz fun W' hk=>hk.boxL (T:=41) (by decide)
 generalize T1++[tSignS ⟨#[123]⟩]++u.flatMap tk++[tSignS ⟨#[125]⟩]=T2 at KR ⊢;clear h hk hT hku ih hm hl hl1 hT1;go_enter Tryz.func43,Tryz.ntmps43;go_wp2_with (first | (go_at_call 55;go_must ((with_reducible refine(KO.out _).mono ?_);rintro e w1 ⟨rfl,rfl⟩)) | (go_at_call 90;go_must ((with_reducible refine(KA.out _ (HN.out _).2.2).mono ?_);rintro e w2 ⟨v2,rfl,hq2,hb2,hk2⟩;have HC:Hid (TkT B w2 v2 T1∧Below B w w2∧KeptK w w2):=zz ⟨hq2,(HN.out _).1.trans hb2,(HN.out _).2.1.trans hk2⟩;have y11:=(HBX.out _ hk2).at_ 11 _ rfl;clear hq2 hb2 hk2)) | (go_at_call 94;go_must ((with_reducible refine(KR.out _ _ HC.out.1 HC.out.2.1).mono ?_);rintro e w3 ⟨v3,rfl,hq3,hb3,hk3⟩;have HD:Hid (TkT B w3 v3 T2∧Below B w w3∧KeptK w w3):=zz ⟨hq3,HC.out.2.1.trans hb3,HC.out.2.2.trans hk3⟩;clear hq3 hb3 hk3)));go_ret;exact⟨_,rfl,HD.out.1,HD.out.2.1,HD.out.2.2⟩
def tkR:Ru→List Tok:=fun r=>if r.kind=1 then [tFlagS ⟨#[114,101]⟩,tTextS]++([tSignS ⟨#[123]⟩]++[]++[tSignS ⟨#[125]⟩]) else [tWordS ⟨#[101,111,102]⟩]++([tSignS ⟨#[123]⟩]++[tWordS ⟨#[101,120,105,116]⟩]++[tSignS ⟨#[125]⟩])
def rusA:List Ru:=[.mk 1 (-1) 2 [97,42] [] 8,.mk 3 (-1) 0 [] [cmExit] 20]
def toksA:List Tok:=[tWordS ⟨#[101,120,112,101,99,116]⟩]++[tSignS ⟨#[123]⟩]++rusA.flatMap tkR++[tSignS ⟨#[125]⟩]
theorem x33 (B:Nat):APl B 400000 [] []:=z5u B 500000 400000 (by decide) [] (fun _=>[]) (fun x h=>by cases h) (by decide) (by decide)
theorem x1j (B:Nat):APl B 400000 [cmExit] [tWordS ⟨#[101,120,105,116]⟩]:=by
 have:=z5u B 500000 400000 (by decide) [cmExit] (fun _=>[tWordS ⟨#[101,120,105,116]⟩]) (fun x h=>by rw[List.mem_singleton.1 h];exact x3y B 25) (by decide) (by decide);exact this
theorem apr_A (B:Nat):∀ x∈rusA,APr B x (tkR x):=by
 intro x h;unfold rusA at h
 rcases List.mem_cons.1 h with rfl | h
 ·exact⟨[tFlagS ⟨#[114,101]⟩,tTextS],[],rfl,by decide,by decide,x33 B,fun w v T A c ht hl=>x0r B w v T A _ c 8 ht (by omega)⟩
 ·rw[List.mem_singleton.1 h]
  exact⟨[tWordS ⟨#[101,111,102]⟩],[tWordS ⟨#[101,120,105,116]⟩],rfl,by decide,by decide,x1j B,fun w v T A c ht hl=>y8h B w v T A _ c 20 ht (by omega)⟩
theorem apc_A (B:Nat):APc B 90000 cmA toksA:=by
 intro w v T lk h hT hk;have:=x3q B rusA 0 tkR (apr_A B) (by decide) (by decide) w v T lk h hT hk;have e:T++[tWordS ⟨#[101,120,112,101,99,116]⟩]++[tSignS ⟨#[123]⟩]++rusA.flatMap tkR++[tSignS ⟨#[125]⟩]=T++toksA:=by unfold toksA;simp only[List.append_assoc]
 rw[e] at this;exact this
theorem apl_A (B:Nat):APl B 0 [cmA] toksA:=by
 have:=z5u B 90000 0 (by decide) [cmA] (fun _=>toksA) (fun x h=>by rw[List.mem_singleton.1 h];exact apc_A B) (by decide) (by decide);rw[show [cmA].flatMap (fun _=>toksA)=toksA by simp] at this;exact this
theorem joinA:joinB toksA=⟨#[101,120,112,101,99,116,32,123,32,45,114,101,32,34,97,42,34,32,123,32,125,32,101,111,102,32,123,32,101,120,105,116,32,125,32,125]⟩∧joinE toksA=0:=by
 have h1:joinT toksA=[101,120,112,101,99,116,32,123,32,45,114,101,32,34,97,42,34,32,123,32,125,32,101,111,102,32,123,32,101,120,105,116,32,125,32,125]:=by kernel_rfl
 have h2:toksA.all okT=true:=by kernel_rfl
 unfold joinB joinE;rw[h1,h2];exact⟨rfl,rfl⟩
theorem fitA:∀ t∈toksA,FitT t:=by
 have h:toksA.all (fun t=>decide (t.word.length≤100000) && decide (-9223372036854775808≤t.n) && decide (t.n≤9223372036854775807) && decide (t.parts.length≤100000) && t.parts.all (fun p=>decide (p.1.length≤100000) && decide (p.2.length≤100000)) && decide ((print t.parts).length≤100000))=true:=by kernel_rfl
 intro t ht;have:=List.all_eq_true.1 h t ht;simp only[Bool.and_eq_true,decide_eq_true_eq,List.all_eq_true] at this;obtain⟨⟨⟨⟨⟨h1,h2⟩,h3⟩,h4⟩,h5⟩,h6⟩:=this;exact⟨h1,⟨h2,h3⟩,h4,fun p hp=>(h5 p hp).1,fun p hp=>(h5 p hp).2,h6⟩
theorem x3w (A:OA) (c:Nat) (w:World) (hk:RowC (LtX w.heap.size) w A [cmA]):Cz 28 #[(),.slice A 1 c] w fun e w2=>∃ A' c',e= .returned (.slice A' toksA.length c')∧RdT w2.heap.size w2 A' toksA.length toksA∧Below w.heap.size w w2:=by
 refine(apl_A w.heap.size w (.slice none 0 0) [] A c (TkT.nil w) (by decide) hk).mono fun e w2 h=>?_
 obtain⟨v,rfl,⟨q,hq,ht⟩,hb,_⟩:=h;obtain⟨A',c',rfl,hr⟩:=z8s ht;rw[List.nil_append] at hq;rw[hq] at hr;have e:q.length=toksA.length:=by rw[←hq,List.length_map]
 rw[e] at hr;exact⟨A',c',by rw[e],hr,hb⟩
theorem x1o (A:OA) (c:Nat) (w:World) (hk:RowC (LtX w.heap.size) w A [cmA]) (hG:Given w) (KM:Hid (∀ w',Below w.heap.size w w'→Cz 10 #[.slice A 1 c] w' fun e w2=>e= .returned true∧Below w'.heap.size w' w2)):
  Cz 13 #[.slice A 1 c] w fun e w'=>e= .returned (.tuple #[.string ⟨#[101,120,112,101,99,116,32,123,32,45,114,101,32,34,97,42,34,32,123,32,125,32,101,111,102,32,123,32,101,120,105,116,32,125,32,125]⟩,oZ])∧Below w.heap.size w w':=by
 have K2:Hid (∀ w',Below w.heap.size w w'→Cz 28 #[(),.slice A 1 c] w' fun e w2=>∃ A' c',e= .returned (.slice A' toksA.length c')∧RdT w2.heap.size w2 A' toksA.length toksA∧Below w'.heap.size w' w2):=zz fun w' hw=>x3w A c w' (hk.next hw)
 have KJ:Hid (∀ w' A' c',RdT w'.heap.size w' A' toksA.length toksA→Given w'→Cz 27 #[.slice A' toksA.length c'] w' fun e w2=>e= .returned (.tuple #[.string (joinB toksA),iI (joinE toksA)])∧Below w'.heap.size w' w2):=zz fun w' A' c' h1 h2=>x1l A' _ c' _ w' h1 (by decide) fitA h2
 rw[joinA.1,joinA.2] at KJ;have HG:=zz hG;generalize toksA=T at K2 KJ;obtain⟨n,hn2⟩:∃ n,n=T.length:=⟨_,rfl⟩;rw[←hn2] at K2 KJ;clear hk hG hn2;go_enter Tryz.func13,Tryz.ntmps13;go_wp2_with (first | (go_at_call 10;go_must ((with_reducible refine(KM.out _ bR).mono ?_);rintro e w1 ⟨rfl,hb1⟩;have HB1:=zz hb1;clear hb1)) | (go_at_call 28;go_must ((with_reducible refine(K2.out _ HB1.out).mono ?_);rintro e w2 ⟨A2,c2,rfl,hr2,hb2⟩;have HB2:=zz (HB1.out.trans (hb2.mono HB1.out.size));have HR2:=zz hr2;clear hb2 hr2)) | (go_at_call 27;go_must ((with_reducible refine(KJ.out _ _ _ HR2.out (HG.out.below HB2.out)).mono ?_);rintro e w3 ⟨rfl,hb3⟩;have HB3:=zz (HB2.out.trans (hb3.mono HB2.out.size));clear hb3)))
 go_ret2
 exact⟨rfl,HB3.out⟩
end Go.Proofs.YtngfihoempcplaaGreatDoor
