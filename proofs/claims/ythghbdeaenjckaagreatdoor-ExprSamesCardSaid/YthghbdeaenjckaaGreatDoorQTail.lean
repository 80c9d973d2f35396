import Derived.StillTailTactics
import Derived.BigQuiet
namespace Go.Proofs.YthghbdeaenjckaaGreatDoor
open Go Go.RowKit
section
section
variable {P:Program} {ops:Array Oper} {w:World}
theorem still_of_quietUpon {o:Oper} {a:Act} {v:Value} {next:Act→Prop} {r:Result Next} (h:Oper.quietUpon P (fun w'=>w'=w) w v r) (hk:next (a.put o.dst v)):o.stillUpon P a w next r:=by
 cases r with
 | ok n w'=>
   cases n with
   | value u=>obtain⟨rfl,rfl⟩:=h;exact⟨rfl,hk⟩
   | skip=>obtain⟨rfl,rfl⟩:=h;exact⟨rfl,hk⟩
   | enter f args=>obtain⟨rfl,hc⟩:=h;exact⟨rfl,v,hc,hk⟩
   | _=>exact h.elim
 | _=>exact h.elim
theorem still_of_quiet {Q:Act→Prop}:∀ (l:List Oper) (a:Act),wpQuiet P ops (fun w'=>w'=w) Q l a→wpStill P ops w Q l a
 | [],_,h=>h
 | o::rest,a,h=>by
   unfold wpQuiet at h;unfold wpStill;by_cases hw:Region.wanted o (yielded ops a.tmps)=true
   ·rw[if_pos hw] at h ⊢
    obtain⟨v,h1,h2⟩:=h;exact still_of_quietUpon (h1 w rfl) (still_of_quiet rest _ h2)
   ·rw[if_neg hw] at h ⊢
    exact still_of_quiet rest _ h
theorem wp_region_quiet_tail {id:Nat} {Q:Exit→Act→World→Prop} {a:Act} {l:List Oper} (n:Nat) (hm:P.follows .mixedOrders=true) (hB:Region.lexTailB .any l.toArray n=true)
  (h:wpQuiet P l.toArray (fun w'=>w'=w.drew) (fun a'=>wpList P l.toArray Q (l.drop n) a' w.drew) (l.take n) a):(Code.region id l.toArray true).wp P Q a w:=
 wp_region_still_tail n hm hB (still_of_quiet (w:=w.drew) _ _ h)
end
end
end Go.Proofs.YthghbdeaenjckaaGreatDoor
