/- Two texts read: what awake asks. -/
import Derived.Test.YtccheljfbjllhaaDoorGoes
namespace Go.Proofs.YtccheljfbjllhaaDoor
open Go Go.RowKit
theorem piece_eq {grp : Rd} {s : Bs} {k g q g' : Nat} {x : Re} (h : atomR grp s k g = .ok x q g') (hr : rep x = true) : pieceC grp s k g = tailP s x q g' := by
  unfold pieceC
  rw [h]
  exact if_pos hr
def sStar : Bs := [97, 42, 42]
theorem atom_byte {grp : Rd} {s : Bs} {k : Nat} (g : Nat) {c : UInt8} (h : s[k]? = some c) (hc : c ∉ sgA) (h2 : c ≠ 92) : atomR grp s k g = .ok (rSet (ins none4 c.toNat)) (k + 1) g := by
  have hne : ∀ d : UInt8, d ∈ sgA → s[k]? ≠ some d := fun d hd e => by rw [h] at e; injection e with e; subst e; exact hc hd
  unfold atomR
  rw [if_neg (hne 94 (by decide)), if_neg (hne 36 (by decide)), if_neg (hne 46 (by decide)), if_neg (hne 40 (by decide)), if_neg (hne 91 (by decide)), rb_get, h]
  dsimp only
  rw [if_neg h2, if_neg hc]
theorem star_bad : parseE sStar = (none, 2, 1) := by
  have p1 : ∀ grp g, pieceC grp sStar 0 g = .ok (rRep (rSet (ins none4 97)) 0 (-1)) 2 g := fun grp g => by
    unfold pieceC
    rw [atom_byte g (c := 97) rfl (by decide) (by decide)]
    rfl
  have p2 : ∀ grp g, pieceC grp sStar 2 g = .bad 2 1 := fun grp g => by
    unfold pieceC atomR
    rw [rb_get]
    rfl
  have r : ∀ grp, rowOf (pieceC grp sStar) sStar 0 0 = .bad 2 1 := fun grp => by
    unfold rowOf
    rw [rowL_ok (by rfl) (p1 _ _) (by decide), rowL_bad (by rfl) (p2 _ _)]
  have e : exC sStar 64 0 0 = .bad 2 1 := by
    show altOf _ sStar 0 0 = _
    unfold altOf
    rw [altL_bad (r _)]
  unfold parseE
  rw [e]
  rfl
def sWake : Bs := [40, 97, 124, 98, 41, 42, 36]
def rA : Re := rSet (ins none4 97)
def rB : Re := rSet (ins none4 98)
def rWake : Re := mkRow [rRep (rGrp (mkAlt [rA, rB]) (num 1)) 0 (-1), rEnd]
theorem wake_read : parseE sWake = (some rWake, 0, 0) := by
  have pa : ∀ grp g, pieceC grp sWake 1 g = .ok rA 2 g := fun grp g => by
    unfold pieceC
    rw [atom_byte g (c := 97) rfl (by decide) (by decide)]
    rfl
  have pb : ∀ grp g, pieceC grp sWake 3 g = .ok rB 4 g := fun grp g => by
    unfold pieceC
    rw [atom_byte g (c := 98) rfl (by decide) (by decide)]
    rfl
  have pe : ∀ grp g, pieceC grp sWake 6 g = .ok rEnd 7 g := fun grp g => by
    unfold pieceC atomR
    rfl
  have ra : ∀ grp g, rowOf (pieceC grp sWake) sWake 1 g = .ok rA 2 g := fun grp g => by
    unfold rowOf
    rw [rowL_ok (by rfl) (pa _ _) (by decide), rowL_end (by rfl)]
    rfl
  have rb : ∀ grp g, rowOf (pieceC grp sWake) sWake 3 g = .ok rB 4 g := fun grp g => by
    unfold rowOf
    rw [rowL_ok (by rfl) (pb _ _) (by decide), rowL_end (by rfl)]
    rfl
  have al : ∀ grp g, altOf (rowOf (pieceC grp sWake) sWake) sWake 1 g = .ok (mkAlt [rA, rB]) 4 g := fun grp g => by
    unfold altOf
    rw [altL_ok (ra _ _) (by rfl) (by decide), altL_end (rb _ _) (by decide)]
    rfl
  have gr : grpM (fun grp => pieceC grp sWake) sWake 64 0 0 = .ok (rGrp (mkAlt [rA, rB]) (num 1)) 5 1 := by
    rw [grpM_succ]
    unfold grpR exM
    rw [al]
    rfl
  have pg : pieceC (grpM (fun grp => pieceC grp sWake) sWake 64) sWake 0 0 = .ok (rRep (rGrp (mkAlt [rA, rB]) (num 1)) 0 (-1)) 6 1 := by
    have ha : atomR (grpM (fun grp => pieceC grp sWake) sWake 64) sWake 0 0 = .ok (rGrp (mkAlt [rA, rB]) (num 1)) 5 1 := by
      rw [← gr]
      unfold atomR
      rfl
    rw [piece_eq ha rfl]
    rfl
  have r : rowOf (pieceC (grpM (fun grp => pieceC grp sWake) sWake 64) sWake) sWake 0 0 = .ok rWake 7 1 := by
    unfold rowOf
    rw [rowL_ok (by rfl) pg (by decide), rowL_ok (by rfl) (pe _ _) (by decide), rowL_end (by rfl)]
    rfl
  have e : exC sWake 64 0 0 = .ok rWake 7 1 := by
    show altOf (rowOf (pieceC (grpM (fun grp => pieceC grp sWake) sWake 64) sWake) sWake) sWake 0 0 = _
    unfold altOf
    rw [altL_end r (by decide)]
    rfl
  unfold parseE
  rw [e]
  rfl
end Go.Proofs.YtccheljfbjllhaaDoor
