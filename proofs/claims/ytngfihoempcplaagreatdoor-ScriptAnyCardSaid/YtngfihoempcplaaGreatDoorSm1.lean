import Derived.Test.YtngfihoempcplaaGreatDoorCf
import Derived.Test.YtngfihoempcplaaGreatDoorSc42
namespace Go.Proofs.YtngfihoempcplaaGreatDoor
open Go Go.RowKit
set_option maxRecDepth 100000
set_option maxHeartbeats 4000000
theorem oneV (w:World) (vs:List Value) (h:0<vs.length) (T:TypeId):Hid (∀ W',Below (w.alloc (.cells vs.toArray T)).heap.size (w.alloc (.cells vs.toArray T)) W'→BoxL W' w.heap.size vs)∧Hid (Below w.heap.size w (w.alloc (.cells vs.toArray T))):=⟨zz (z72 w vs h T),zz (z0b w _)⟩
theorem z1s (X:OA) (cx:Nat) (w:World):Cz 39 #[.agg #[oZ,oZ,oS,oS,.slice X 0 cx],.agg #[oZ,oZ,oS,oS,()]] w fun e w'=>e= .returned true∧Below w.heap.size w w':=by
 have:=y0x exNone exNone X none cx 0 w (KidsX.leaf _ _ _ _ _ _ _) (KidsX.leaf _ _ _ _ _ _ _) (by decide) (by decide);rw[z0v rfl] at this;exact this
theorem x0d (kd:Int) (P X B E U:OA) (cp cx cb ce cu:Nat) (pl:Int) (w:World):Cz 77 #[.agg #[kd,oS,oZ,.slice P 0 cp,oZ,oZ,oS,oS,.slice X 0 cx,.slice B 0 cb,.slice E 0 ce,.slice U 0 cu,pl],oZ] w fun e w'=>e= .returned true∧Below w.heap.size w w':=by
 have KS:=zz z1s;obtain⟨HBX,HN⟩:=oneV w [kd,oS,oZ,.slice P 0 cp,oZ,oZ,oS,oS,.slice X 0 cx,.slice B 0 cb,.slice E 0 ce,.slice U 0 cu,pl] (by simp) 41;have hsz:((⟨#[]⟩:BA)==⟨#[]⟩)=true:=by decide
 go_enter Tryz.func77,Tryz.ntmps77;go_wp2_with (go_at_call 39;go_must ((with_reducible refine(KS.out _ _ _).mono ?_);rintro e w3 ⟨rfl,hb3⟩;have HT:=zz hb3;obtain⟨_,_,_,_,_,_,_,_,_,y9,y10,y11,_⟩:=(HBX.out _ hb3).all13;clear hb3));go_ret;exact⟨rfl,HN.out.trans (HT.out.mono HN.out.size)⟩
theorem x3i (kd:Int) (S:BA) (P X B E U:OA) (cp cx cb ce cu:Nat) (pl:Int) (w:World):Cz 77 #[.agg #[kd,S,oZ,.slice P 0 cp,oZ,oZ,oS,oS,.slice X 0 cx,.slice B 0 cb,.slice E 0 ce,.slice U 0 cu,pl],iI 1] w fun e w'=>e= .returned true∧Below w.heap.size w w':=by
 have KS:=zz z1s;obtain⟨HBX,HN⟩:=oneV w [kd,S,oZ,.slice P 0 cp,oZ,oZ,oS,oS,.slice X 0 cx,.slice B 0 cb,.slice E 0 ce,.slice U 0 cu,pl] (by simp) 41;have hsz:((⟨#[]⟩:BA)==⟨#[]⟩)=true:=by decide
 go_enter Tryz.func77,Tryz.ntmps77;go_wp2_with (go_at_call 39;go_must ((with_reducible refine(KS.out _ _ _).mono ?_);rintro e w3 ⟨rfl,hb3⟩;have HT:=zz hb3;obtain⟨_,_,_,_,_,_,_,_,_,y9,y10,y11,_⟩:=(HBX.out _ hb3).all13;clear hb3));go_ret;exact⟨rfl,HN.out.trans (HT.out.mono HN.out.size)⟩
theorem y29 (kd:Int) (n:Int) (P X B E U:OA) (cp cx cb ce cu:Nat) (pl:Int) (w:World):Cz 77 #[.agg #[kd,oS,n,.slice P 0 cp,oZ,oZ,oS,oS,.slice X 0 cx,.slice B 0 cb,.slice E 0 ce,.slice U 0 cu,pl],iI 2] w fun e w'=>e= .returned true∧Below w.heap.size w w':=by
 have KS:=zz z1s;obtain⟨HBX,HN⟩:=oneV w [kd,oS,n,.slice P 0 cp,oZ,oZ,oS,oS,.slice X 0 cx,.slice B 0 cb,.slice E 0 ce,.slice U 0 cu,pl] (by simp) 41;have hsz:((⟨#[]⟩:BA)==⟨#[]⟩)=true:=by decide
 go_enter Tryz.func77,Tryz.ntmps77;go_wp2_with (go_at_call 39;go_must ((with_reducible refine(KS.out _ _ _).mono ?_);rintro e w3 ⟨rfl,hb3⟩;have HT:=zz hb3;obtain⟨_,_,_,_,_,_,_,_,_,y9,y10,y11,_⟩:=(HBX.out _ hb3).all13;clear hb3));go_ret;exact⟨rfl,HN.out.trans (HT.out.mono HN.out.size)⟩
theorem x3g (kd:Int) (S:BA) (n:Int) (P X B E U:OA) (cp cx cb ce cu:Nat) (pl:Int) (w:World):Cz 77 #[.agg #[kd,S,n,.slice P 0 cp,oZ,oZ,oS,oS,.slice X 0 cx,.slice B 0 cb,.slice E 0 ce,.slice U 0 cu,pl],iI 3] w fun e w'=>e= .returned true∧Below w.heap.size w w':=by
 have KS:=zz z1s;obtain⟨HBX,HN⟩:=oneV w [kd,S,n,.slice P 0 cp,oZ,oZ,oS,oS,.slice X 0 cx,.slice B 0 cb,.slice E 0 ce,.slice U 0 cu,pl] (by simp) 41;have hsz:((⟨#[]⟩:BA)==⟨#[]⟩)=true:=by decide
 go_enter Tryz.func77,Tryz.ntmps77;go_wp2_with (go_at_call 39;go_must ((with_reducible refine(KS.out _ _ _).mono ?_);rintro e w3 ⟨rfl,hb3⟩;have HT:=zz hb3;obtain⟨_,_,_,_,_,_,_,_,_,y9,y10,y11,_⟩:=(HBX.out _ hb3).all13;clear hb3));go_ret;exact⟨rfl,HN.out.trans (HT.out.mono HN.out.size)⟩
theorem x39 (kd:Int) (np:Nat) (P X B E U:OA) (cp cx cb ce cu:Nat) (pl:Int) (w:World):Cz 77 #[.agg #[kd,oS,oZ,.slice P np cp,oZ,oZ,oS,oS,.slice X 0 cx,.slice B 0 cb,.slice E 0 ce,.slice U 0 cu,pl],iI 4] w fun e w'=>e= .returned true∧Below w.heap.size w w':=by
 have KS:=zz z1s;obtain⟨HBX,HN⟩:=oneV w [kd,oS,oZ,.slice P np cp,oZ,oZ,oS,oS,.slice X 0 cx,.slice B 0 cb,.slice E 0 ce,.slice U 0 cu,pl] (by simp) 41;have hsz:((⟨#[]⟩:BA)==⟨#[]⟩)=true:=by decide
 go_enter Tryz.func77,Tryz.ntmps77;go_wp2_with (go_at_call 39;go_must ((with_reducible refine(KS.out _ _ _).mono ?_);rintro e w3 ⟨rfl,hb3⟩;have HT:=zz hb3;obtain⟨_,_,_,_,_,_,_,_,_,y9,y10,y11,_⟩:=(HBX.out _ hb3).all13;clear hb3));go_ret;exact⟨rfl,HN.out.trans (HT.out.mono HN.out.size)⟩
theorem x4k (kd:Int) (S:BA) (np:Nat) (P X B E U:OA) (cp cx cb ce cu:Nat) (pl:Int) (w:World):Cz 77 #[.agg #[kd,S,oZ,.slice P np cp,oZ,oZ,oS,oS,.slice X 0 cx,.slice B 0 cb,.slice E 0 ce,.slice U 0 cu,pl],iI 5] w fun e w'=>e= .returned true∧Below w.heap.size w w':=by
 have KS:=zz z1s;obtain⟨HBX,HN⟩:=oneV w [kd,S,oZ,.slice P np cp,oZ,oZ,oS,oS,.slice X 0 cx,.slice B 0 cb,.slice E 0 ce,.slice U 0 cu,pl] (by simp) 41;have hsz:((⟨#[]⟩:BA)==⟨#[]⟩)=true:=by decide
 go_enter Tryz.func77,Tryz.ntmps77;go_wp2_with (go_at_call 39;go_must ((with_reducible refine(KS.out _ _ _).mono ?_);rintro e w3 ⟨rfl,hb3⟩;have HT:=zz hb3;obtain⟨_,_,_,_,_,_,_,_,_,y9,y10,y11,_⟩:=(HBX.out _ hb3).all13;clear hb3));go_ret;exact⟨rfl,HN.out.trans (HT.out.mono HN.out.size)⟩
theorem x3d (kd:Int) (S:BA) (xk xn:Int) (X1 X2:BA) (nx:Nat) (P X B E U:OA) (cp cx cb ce cu:Nat) (pl:Int) (w:World):Cz 77 #[.agg #[kd,S,oZ,.slice P 0 cp,xk,xn,X1,X2,.slice X nx cx,.slice B 0 cb,.slice E 0 ce,.slice U 0 cu,pl],iI 9] w fun e w'=>e= .returned true∧Below w.heap.size w w':=by
 have KS:=zz z1s;obtain⟨HBX,HN⟩:=oneV w [kd,S,oZ,.slice P 0 cp,xk,xn,X1,X2,.slice X nx cx,.slice B 0 cb,.slice E 0 ce,.slice U 0 cu,pl] (by simp) 41;have hsz:((⟨#[]⟩:BA)==⟨#[]⟩)=true:=by decide
 go_enter Tryz.func77,Tryz.ntmps77;go_wp2;go_ret;exact⟨rfl,HN.out⟩
theorem x1u (kd:Int) (S:BA) (nb:Nat) (P X B E U:OA) (cp cx cb ce cu:Nat) (pl:Int) (w:World):Cz 77 #[.agg #[kd,S,oZ,.slice P 0 cp,oZ,oZ,oS,oS,.slice X 0 cx,.slice B nb cb,.slice E 0 ce,.slice U 0 cu,pl],iI 17] w fun e w'=>e= .returned true∧Below w.heap.size w w':=by
 have KS:=zz z1s;obtain⟨HBX,HN⟩:=oneV w [kd,S,oZ,.slice P 0 cp,oZ,oZ,oS,oS,.slice X 0 cx,.slice B nb cb,.slice E 0 ce,.slice U 0 cu,pl] (by simp) 41;have hsz:((⟨#[]⟩:BA)==⟨#[]⟩)=true:=by decide
 go_enter Tryz.func77,Tryz.ntmps77;go_wp2_with (go_at_call 39;go_must ((with_reducible refine(KS.out _ _ _).mono ?_);rintro e w3 ⟨rfl,hb3⟩;have HT:=zz hb3;obtain⟨_,_,_,_,_,_,_,_,_,y9,y10,y11,_⟩:=(HBX.out _ hb3).all13;clear hb3));go_ret;exact⟨rfl,HN.out.trans (HT.out.mono HN.out.size)⟩
theorem x1n (kd:Int) (xk xn:Int) (X1 X2:BA) (nx:Nat) (nb:Nat) (P X B E U:OA) (cp cx cb ce cu:Nat) (pl:Int) (w:World):Cz 77 #[.agg #[kd,oS,oZ,.slice P 0 cp,xk,xn,X1,X2,.slice X nx cx,.slice B nb cb,.slice E 0 ce,.slice U 0 cu,pl],iI 24] w fun e w'=>e= .returned true∧Below w.heap.size w w':=by
 have KS:=zz z1s;obtain⟨HBX,HN⟩:=oneV w [kd,oS,oZ,.slice P 0 cp,xk,xn,X1,X2,.slice X nx cx,.slice B nb cb,.slice E 0 ce,.slice U 0 cu,pl] (by simp) 41;have hsz:((⟨#[]⟩:BA)==⟨#[]⟩)=true:=by decide
 go_enter Tryz.func77,Tryz.ntmps77;go_wp2;go_ret;exact⟨rfl,HN.out⟩
theorem x2u (kd:Int) (xk xn:Int) (X1 X2:BA) (nx:Nat) (nb:Nat) (ne:Nat) (P X B E U:OA) (cp cx cb ce cu:Nat) (pl:Int) (w:World):Cz 77 #[.agg #[kd,oS,oZ,.slice P 0 cp,xk,xn,X1,X2,.slice X nx cx,.slice B nb cb,.slice E ne ce,.slice U 0 cu,pl],iI 56] w fun e w'=>e= .returned true∧Below w.heap.size w w':=by
 have KS:=zz z1s;obtain⟨HBX,HN⟩:=oneV w [kd,oS,oZ,.slice P 0 cp,xk,xn,X1,X2,.slice X nx cx,.slice B nb cb,.slice E ne ce,.slice U 0 cu,pl] (by simp) 41;have hsz:((⟨#[]⟩:BA)==⟨#[]⟩)=true:=by decide
 go_enter Tryz.func77,Tryz.ntmps77;go_wp2;go_ret;exact⟨rfl,HN.out⟩
theorem z9s (kd:Int) (nu:Nat) (P X B E U:OA) (cp cx cb ce cu:Nat) (pl:Int) (w:World):Cz 77 #[.agg #[kd,oS,oZ,.slice P 0 cp,oZ,oZ,oS,oS,.slice X 0 cx,.slice B 0 cb,.slice E 0 ce,.slice U nu cu,pl],iI 64] w fun e w'=>e= .returned true∧Below w.heap.size w w':=by
 have KS:=zz z1s;obtain⟨HBX,HN⟩:=oneV w [kd,oS,oZ,.slice P 0 cp,oZ,oZ,oS,oS,.slice X 0 cx,.slice B 0 cb,.slice E 0 ce,.slice U nu cu,pl] (by simp) 41;have hsz:((⟨#[]⟩:BA)==⟨#[]⟩)=true:=by decide
 go_enter Tryz.func77,Tryz.ntmps77;go_wp2_with (go_at_call 39;go_must ((with_reducible refine(KS.out _ _ _).mono ?_);rintro e w3 ⟨rfl,hb3⟩;have HT:=zz hb3;obtain⟨_,_,_,_,_,_,_,_,_,y9,y10,y11,_⟩:=(HBX.out _ hb3).all13;clear hb3));go_ret;exact⟨rfl,HN.out.trans (HT.out.mono HN.out.size)⟩
end Go.Proofs.YtngfihoempcplaaGreatDoor
