/- The document's own reader: an atom. -/
import Derived.Test.YtccheljfbjllhaaDoorD3
import Derived.Test.YtccheljfbjllhaaDoorPlain
namespace Go.Proofs.YtccheljfbjllhaaDoor
open Go Go.RowKit

/-- What a reader of the document's leaves: always an expression; where it could go on, that one. -/
def PostD (b : Nat) (w : World) (s : ByteArray) (R : Ro Re) (e : Ending) (w' : World) : Prop := w.grownBy w' (some b) ∧ ∃ x A c, e = .returned (valR x A c) ∧ Kids (Fr w.heap.size w'.heap.size) w' A x ∧ match R with
  | .bad q er => ∃ (g' z : Nat), er = (z : Int) ∧ (z = 1 ∨ z = 8) ∧ Rdr b w' s q g' z
  | .ok y q g' => y = x ∧ g' ≤ q ∧ Rdr b w' s q g' 0
theorem postd_bad {b : Nat} {w w' : World} {s : ByteArray} {q g' z : Nat} {er : Int} {R : Ro Re} {v : Value} (h : R = .bad q er) (x : Re) (A : Option Addr) (c : Nat) (hv : v = valR x A c) (hk : Kids (Fr w.heap.size w'.heap.size) w' A x) (he : er = z) (hz : z = 1 ∨ z = 8) (hr : Rdr b w' s q g' z) (hg : w.grownBy w' (some b)) : PostD b w s R (.returned v) w' := by subst h hv; exact ⟨hg, x, A, c, rfl, hk, g', z, he, hz, hr⟩
theorem postd_ok {b : Nat} {w w' : World} {s : ByteArray} {q g' : Nat} {x : Re} {R : Ro Re} {v : Value} (h : R = .ok x q g') (A : Option Addr) (c : Nat) (hv : v = valR x A c) (hk : Kids (Fr w.heap.size w'.heap.size) w' A x) (hq : g' ≤ q) (hr : Rdr b w' s q g' 0) (hg : w.grownBy w' (some b)) : PostD b w s R (.returned v) w' := by subst h hv; exact ⟨hg, x, A, c, rfl, hk, rfl, hq, hr⟩
/-- Readers of pieces (ahead of a byte that ends no row), of expressions. -/
def RdD (fn : Nat) (s : ByteArray) (d : Nat) (rd : Rd) : Prop := ∀ b w k g, Rdr b w s k g 0 → stops s.data.toList k = false → k < s.size → g ≤ k → Calls Tryd.prog fn #[.pointer (some ⟨b, 0, none⟩), .int .i64 d] w (PostD b w s (rd k g))
def RdED (fn : Nat) (s : ByteArray) (d : Nat) (rd : Rd) : Prop := ∀ b w k g, Rdr b w s k g 0 → k ≤ s.size → g ≤ k → Calls Tryd.prog fn #[.pointer (some ⟨b, 0, none⟩), .int .i64 d] w (PostD b w s (rd k g))
/-- A reader's groups are fewer than its bytes, and it goes on. -/
def SaneD (s : ByteArray) (rd : Rd) : Prop := ∀ k g, k ≤ s.size → g ≤ k → ∀ x q g', rd k g = .ok x q g' → k ≤ q ∧ q ≤ s.size ∧ g' ≤ q
/-- Groups, as many as may still stand within. -/
def grpD (d : Nat) (ex : Rd) (s : Bs) : Rd := if 64 ≤ d then fun k _ => .bad k 8 else grpR ex s
theorem atom_is {grp : Rd} {s : Bs} {k : Nat} (g : Nat) {c : UInt8} (h : s[k]? = some c) : atomR grp s k g = if c = 94 then .ok rBegin (k + 1) g else if c = 36 then .ok rEnd (k + 1) g else if c = 46 then .ok (rSet (compl none4)) (k + 1) g
    else if c = 40 then grp k g else if c = 91 then (match cls s (k + 1) with
      | .bad q => .bad q 1
      | .ok S q => .ok (rSet S) q g)
    else if c = 92 then (match s[k + 1]? with
      | none => .bad (k + 1) 1
      | some d => .ok (rSet (ins none4 d.toNat)) (k + 2) g)
    else if c ∈ sgA then .bad k 1 else .ok (rSet (ins none4 c.toNat)) (k + 1) g := by
  unfold atomR
  rw [rb_get, h]
  by_cases c1 : c = 94
  · rw [if_pos (by rw [c1]), if_pos c1]
  rw [if_neg (by simpa using c1), if_neg c1]
  by_cases c2 : c = 36
  · rw [if_pos (by rw [c2]), if_pos c2]
  rw [if_neg (by simpa using c2), if_neg c2]
  by_cases c3 : c = 46
  · rw [if_pos (by rw [c3]), if_pos c3]
  rw [if_neg (by simpa using c3), if_neg c3]
  by_cases c4 : c = 40
  · rw [if_pos (by rw [c4]), if_pos c4]
  rw [if_neg (by simpa using c4), if_neg c4]
  by_cases c5 : c = 91
  · rw [if_pos (by rw [c5]), if_pos c5]
    cases cls s (k + 1) <;> rfl
  rw [if_neg (by simpa using c5), if_neg c5]
  dsimp only
  by_cases c6 : c = 92
  · rw [if_pos c6, if_pos c6]
    cases s[k + 1]? <;> rfl
  rw [if_neg c6, if_neg c6]
  by_cases c7 : c ∈ sgA
  · rw [if_pos c7, if_pos c7]
  · rw [if_neg c7, if_neg c7]
theorem Rdr.incn {b : Nat} {w : World} {s : ByteArray} {k g o : Nat} (h : Rdr b w s k g o) (z : Int) (hz : z = (g : Int) + 1) : Rdr b (w.setCell ⟨b, 2, none⟩ (.int .i64 z)) s k (g + 1) o := by subst hz; exact h.groups_ (g + 1)
abbrev ExBad (b : Nat) (s : ByteArray) (k g : Nat) (d : Int) (q z : Nat) : Prop := ∀ w, Rdr b w s k g 0 → Calls Tryd.prog 24 #[.pointer (some ⟨b, 0, none⟩), .int .i64 d] w fun e w' => (∃ x A c, e = .returned (valR x A c)) ∧ (∃ g2, Rdr b w' s q g2 z) ∧ w.grownBy w' (some b)
abbrev ExOk (b : Nat) (s : ByteArray) (k g : Nat) (d : Int) (q g' : Nat) (x : Re) : Prop := ∀ w, Rdr b w s k g 0 → Calls Tryd.prog 24 #[.pointer (some ⟨b, 0, none⟩), .int .i64 d] w fun e w' => (∃ A c, e = .returned (valR x A c) ∧ Kids (Fr w.heap.size w'.heap.size) w' A x) ∧ Rdr b w' s q g' 0 ∧ w.grownBy w' (some b)
theorem ex_bad {s : ByteArray} {d : Nat} {ex : Rd} (h : RdED 24 s d ex) (b : Nat) {k g q z : Nat} {er : Int} (dz : Int) (hd : dz = d) (hk : k ≤ s.size) (hg : g ≤ k) (hR : ex k g = .bad q er) (hz : er = z) : ExBad b s k g dz q z := fun w hr => by
  subst hd
  have := h b w k g hr hk hg
  rw [hR] at this
  refine this.mono fun e w' ⟨h1, x, A, c, h2, _, g', z', h3, _, h4⟩ => ⟨⟨x, A, c, h2⟩, ⟨g', ?_⟩, h1⟩
  have : z' = z := by omega
  rw [← this]; exact h4
theorem ex_ok {s : ByteArray} {d : Nat} {ex : Rd} (h : RdED 24 s d ex) (b : Nat) {k g q g' : Nat} {x : Re} (dz : Int) (hd : dz = d) (hk : k ≤ s.size) (hg : g ≤ k) (hR : ex k g = .ok x q g') : ExOk b s k g dz q g' x := fun w hr => by
  subst hd
  have := h b w k g hr hk hg
  rw [hR] at this
  exact this.mono fun e w' ⟨h1, y, A, c, h2, h3, h4, _, h5⟩ => by subst h4; exact ⟨⟨A, c, h2, h3⟩, h5, h1⟩
/-- A set, behind its bracket. -/
abbrev ClT (b : Nat) (s : ByteArray) (k g q o : Nat) (v : Value) : Prop := ∀ w, Rdr b w s k g 0 → Calls Tryd.prog 67 #[.pointer (some ⟨b, 0, none⟩)] w fun e w' => e = .returned v ∧ Rdr b w' s q g o ∧ w.grownBy w' (some b)
theorem cl_bad (b : Nat) {s : ByteArray} {k q : Nat} (g : Nat) (h : cls s.data.toList k = .bad q) (hs : s.size ≤ 1000000) (hk : k ≤ s.size) : ClT b s k g q 1 (.agg #[.int .i64 0, .int .u64 0, .int .u64 0, .int .u64 0, .int .u64 0, .slice none 0 0, .int .i64 0, .int .i64 0, .int .i64 0]) := fun w hr => by
  have := class_any b w s k g hr hs hk
  rw [h] at this
  exact this.mono fun e w' ⟨a, c, d⟩ => ⟨c, d, a⟩
theorem cl_ok (b : Nat) {s : ByteArray} {k q : Nat} {S : S4} (g : Nat) (h : cls s.data.toList k = .ok S q) (hs : s.size ≤ 1000000) (hk : k ≤ s.size) : ClT b s k g q 0 (.agg #[.int .i64 1, .int .u64 S.1.toNat, .int .u64 S.2.1.toNat, .int .u64 S.2.2.1.toNat, .int .u64 S.2.2.2.toNat, .slice none 0 0, .int .i64 0, .int .i64 0, .int .i64 0]) := fun w hr => by
  have := class_any b w s k g hr hs hk
  rw [h] at this
  exact this.mono fun e w' ⟨a, c, d⟩ => ⟨c, d, a⟩
theorem all_t (w : World) : Calls Tryd.prog 68 #[.slice none 0 0, .bool true] w fun e w' => e = .returned (setV4 (compl none4)) ∧ Below w.heap.size w w' := by
  have := of_any none 0 [] true w (fun h => by simp at h) (by simp)
  rw [ofS_yes] at this
  exact this
theorem one_t (c : UInt8) (y : Int) (hy : y = c.toNat) (w : World) : Calls Tryd.prog 69 #[.int .u8 y] w fun e w' => e = .returned (setV4 (ins none4 c.toNat)) ∧ Below w.heap.size w w' := by
  subst hy
  exact one_any c.toNat c.toNat_lt w
theorem Rdr.lt0 {b : Nat} {w : World} {s : ByteArray} {k g o : Nat} (h : Rdr b w s k g o) {u u' : Value} : b < ((w.setCell ⟨b, 1, none⟩ u).setCell ⟨b, 2, none⟩ u').heap.size := by
  rw [size_set, size_set]; exact h.lt
set_option maxRecDepth 100000 in
set_option maxHeartbeats 8000000 in
theorem datom_any (s : ByteArray) (d : Nat) (ex : Rd) (hs : s.size ≤ 200) (hd : d ≤ 64) (hex : d < 64 → RdED 24 s (d + 1) ex) (hsane : SaneE s ex) : RdD 58 s d (atomR (grpD d ex s.data.toList) s.data.toList) := by
  intro b w k g h hst hk hgk
  obtain ⟨R, hR⟩ : ∃ R, R = atomR (grpD d ex s.data.toList) s.data.toList k g := ⟨_, rfl⟩
  rw [← hR]
  have hsz : s.data.toList.length = s.size := rfl
  have hb := Lib.hid h.lt
  have HR := Lib.hid (h.low (one_box w (.cells #[.int .i64 0, .int .u64 0, .int .u64 0, .int .u64 0, .int .u64 0, .slice none 0 0, .int .i64 0, .int .i64 0, .int .i64 0] 27)))
  have HG : Hid (w.grownBy (w.alloc (.cells #[.int .i64 0, .int .u64 0, .int .u64 0, .int .u64 0, .int .u64 0, .slice none 0 0, .int .i64 0, .int .i64 0, .int .i64 0] 27)) (some b)) := Lib.hid (grown_below (one_box w _))
  have HB := Lib.hid (Box9.new w (.int .i64 0) (.int .u64 0) (.int .u64 0) (.int .u64 0) (.int .u64 0) (.slice none 0 0) (.int .i64 0) (.int .i64 0) (.int .i64 0))
  obtain ⟨c0, c1, c2, c3, f1, f2, f3⟩ := HR.out
  obtain ⟨d0, d1, d2, d3, d4, d5, d6, d7, d8, _⟩ := HB.out; obtain ⟨e0, e1, e2, e3, e4, e5, e6, e7, e8⟩ := Box9.freed HB.out
  have hkb : (k : Int) ≤ 200 := by omega
  have hgb : (g : Int) ≤ 200 := by omega
  have kin : k < s.size := hk
  have hget := get_at s k hk
  obtain ⟨y, hy⟩ : ∃ y : Int, y = (s[k].toNat : Int) := ⟨_, rfl⟩
  have hyy : (s[k].toNat : Int) = y := hy.symm
  have hstp : s[k] ≠ 124 ∧ s[k] ≠ 41 := by
    unfold stops at hst
    rw [hget] at hst
    simpa using hst
  have lit : ∀ n : UInt8, y = (n.toNat : Int) → s[k] = n := fun n h => u8_eq (by rw [← hy]; exact h)
  clear h hst
  by_cases g42 : y = 42
  · have f := g42
    have hc := lit 42 f
    rw [hc] at hget
    rw [atom_is g hget, if_neg (by decide), if_neg (by decide), if_neg (by decide), if_neg (by decide), if_neg (by decide), if_neg (by decide), if_pos (by decide)] at hR
    have HX := Lib.hid hR
    have KF := Lib.hid (fail_new 1 1 rfl b s k g)
    subst f
    clear hR hget hc hy lit hstp hsz
    go_enter Tryd.func58, Tryd.ntmps58
    go_wp2
    go_quiet (fail)
    have hrq := HR.out.drews nq
    have hgq := grown_trans HG.out (grown_drews b nq _)
    have hbq := HB.out.low (below_drews _ nq)
    clear HR HG HB
    have HR := Lib.hid hrq
    have HG := Lib.hid hgq
    have HB := Lib.hid hbq
    clear hrq hgq hbq
    obtain ⟨c0, c1, c2, c3, f1, f2, f3⟩ := HR.out
    obtain ⟨d0, d1, d2, d3, d4, d5, d6, d7, d8, _⟩ := HB.out; obtain ⟨e0, e1, e2, e3, e4, e5, e6, e7, e8⟩ := Box9.freed HB.out
    go_wp2_with (go_at_call 25; (with_reducible refine (Hid.out KF _ (Hid.out HR)).mono ?_); go_must (rintro _ wv ⟨he, hr1, hg1⟩; subst he; have hg2 := grown_trans (Hid.out HG) hg1; have hb2 := Box9.grown (Hid.out HB) hg1 (Nat.ne_of_gt (Hid.out hb)); clear HR; have HR := Lib.hid hr1; clear HG; have HG := Lib.hid hg2; clear HB; have HB := Lib.hid hb2; obtain ⟨c0, c1, c2, c3, f1, f2, f3⟩ := hr1; obtain ⟨d0, d1, d2, d3, d4, d5, d6, d7, d8, _⟩ := HB.out; obtain ⟨e0, e1, e2, e3, e4, e5, e6, e7, e8⟩ := Box9.freed HB.out; clear hg1 hg2 hb2))
    obtain ⟨W3, hW3, hbx, hr, hgw⟩ := endT (.int .i64 0) (.int .u64 0) (.int .u64 0) (.int .u64 0) (.int .u64 0) (.slice none 0 0) (.int .i64 0) (.int .i64 0) (.int .i64 0) hb.out HR.out HG.out HB.out
    unfold put9 at hW3
    rw [← hW3]
    obtain ⟨l0, l1, l2, l3, l4, l5, l6, l7, l8, _⟩ := hbx
    exact bodyPost_ret (v := .agg #[.int .i64 0, .int .u64 0, .int .u64 0, .int .u64 0, .int .u64 0, .slice none 0 0, .int .i64 0, .int .i64 0, .int .i64 0]) (by simp [results, Tryd.results58, go_sem, l0, l1, l2, l3, l4, l5, l6, l7, l8]) rfl (postd_bad HX.out (.mk 0 none4 [] 0 0 0) none 0 (by rfl) (Kids.leaf _ _ _ _ _ _ _ _) (by rfl) (by exact .inl rfl) hr hgw)
  by_cases g43 : y = 43
  · have f := g43
    have hc := lit 43 f
    rw [hc] at hget
    rw [atom_is g hget, if_neg (by decide), if_neg (by decide), if_neg (by decide), if_neg (by decide), if_neg (by decide), if_neg (by decide), if_pos (by decide)] at hR
    have HX := Lib.hid hR
    have KF := Lib.hid (fail_new 1 1 rfl b s k g)
    subst f
    clear hR hget hc hy lit hstp hsz
    go_enter Tryd.func58, Tryd.ntmps58
    go_wp2
    go_quiet (fail)
    have hrq := HR.out.drews nq
    have hgq := grown_trans HG.out (grown_drews b nq _)
    have hbq := HB.out.low (below_drews _ nq)
    clear HR HG HB
    have HR := Lib.hid hrq
    have HG := Lib.hid hgq
    have HB := Lib.hid hbq
    clear hrq hgq hbq
    obtain ⟨c0, c1, c2, c3, f1, f2, f3⟩ := HR.out
    obtain ⟨d0, d1, d2, d3, d4, d5, d6, d7, d8, _⟩ := HB.out; obtain ⟨e0, e1, e2, e3, e4, e5, e6, e7, e8⟩ := Box9.freed HB.out
    go_wp2_with (go_at_call 25; (with_reducible refine (Hid.out KF _ (Hid.out HR)).mono ?_); go_must (rintro _ wv ⟨he, hr1, hg1⟩; subst he; have hg2 := grown_trans (Hid.out HG) hg1; have hb2 := Box9.grown (Hid.out HB) hg1 (Nat.ne_of_gt (Hid.out hb)); clear HR; have HR := Lib.hid hr1; clear HG; have HG := Lib.hid hg2; clear HB; have HB := Lib.hid hb2; obtain ⟨c0, c1, c2, c3, f1, f2, f3⟩ := hr1; obtain ⟨d0, d1, d2, d3, d4, d5, d6, d7, d8, _⟩ := HB.out; obtain ⟨e0, e1, e2, e3, e4, e5, e6, e7, e8⟩ := Box9.freed HB.out; clear hg1 hg2 hb2))
    obtain ⟨W3, hW3, hbx, hr, hgw⟩ := endT (.int .i64 0) (.int .u64 0) (.int .u64 0) (.int .u64 0) (.int .u64 0) (.slice none 0 0) (.int .i64 0) (.int .i64 0) (.int .i64 0) hb.out HR.out HG.out HB.out
    unfold put9 at hW3
    rw [← hW3]
    obtain ⟨l0, l1, l2, l3, l4, l5, l6, l7, l8, _⟩ := hbx
    exact bodyPost_ret (v := .agg #[.int .i64 0, .int .u64 0, .int .u64 0, .int .u64 0, .int .u64 0, .slice none 0 0, .int .i64 0, .int .i64 0, .int .i64 0]) (by simp [results, Tryd.results58, go_sem, l0, l1, l2, l3, l4, l5, l6, l7, l8]) rfl (postd_bad HX.out (.mk 0 none4 [] 0 0 0) none 0 (by rfl) (Kids.leaf _ _ _ _ _ _ _ _) (by rfl) (by exact .inl rfl) hr hgw)
  by_cases g63 : y = 63
  · have f := g63
    have hc := lit 63 f
    rw [hc] at hget
    rw [atom_is g hget, if_neg (by decide), if_neg (by decide), if_neg (by decide), if_neg (by decide), if_neg (by decide), if_neg (by decide), if_pos (by decide)] at hR
    have HX := Lib.hid hR
    have KF := Lib.hid (fail_new 1 1 rfl b s k g)
    subst f
    clear hR hget hc hy lit hstp hsz
    go_enter Tryd.func58, Tryd.ntmps58
    go_wp2
    go_quiet (fail)
    have hrq := HR.out.drews nq
    have hgq := grown_trans HG.out (grown_drews b nq _)
    have hbq := HB.out.low (below_drews _ nq)
    clear HR HG HB
    have HR := Lib.hid hrq
    have HG := Lib.hid hgq
    have HB := Lib.hid hbq
    clear hrq hgq hbq
    obtain ⟨c0, c1, c2, c3, f1, f2, f3⟩ := HR.out
    obtain ⟨d0, d1, d2, d3, d4, d5, d6, d7, d8, _⟩ := HB.out; obtain ⟨e0, e1, e2, e3, e4, e5, e6, e7, e8⟩ := Box9.freed HB.out
    go_wp2_with (go_at_call 25; (with_reducible refine (Hid.out KF _ (Hid.out HR)).mono ?_); go_must (rintro _ wv ⟨he, hr1, hg1⟩; subst he; have hg2 := grown_trans (Hid.out HG) hg1; have hb2 := Box9.grown (Hid.out HB) hg1 (Nat.ne_of_gt (Hid.out hb)); clear HR; have HR := Lib.hid hr1; clear HG; have HG := Lib.hid hg2; clear HB; have HB := Lib.hid hb2; obtain ⟨c0, c1, c2, c3, f1, f2, f3⟩ := hr1; obtain ⟨d0, d1, d2, d3, d4, d5, d6, d7, d8, _⟩ := HB.out; obtain ⟨e0, e1, e2, e3, e4, e5, e6, e7, e8⟩ := Box9.freed HB.out; clear hg1 hg2 hb2))
    obtain ⟨W3, hW3, hbx, hr, hgw⟩ := endT (.int .i64 0) (.int .u64 0) (.int .u64 0) (.int .u64 0) (.int .u64 0) (.slice none 0 0) (.int .i64 0) (.int .i64 0) (.int .i64 0) hb.out HR.out HG.out HB.out
    unfold put9 at hW3
    rw [← hW3]
    obtain ⟨l0, l1, l2, l3, l4, l5, l6, l7, l8, _⟩ := hbx
    exact bodyPost_ret (v := .agg #[.int .i64 0, .int .u64 0, .int .u64 0, .int .u64 0, .int .u64 0, .slice none 0 0, .int .i64 0, .int .i64 0, .int .i64 0]) (by simp [results, Tryd.results58, go_sem, l0, l1, l2, l3, l4, l5, l6, l7, l8]) rfl (postd_bad HX.out (.mk 0 none4 [] 0 0 0) none 0 (by rfl) (Kids.leaf _ _ _ _ _ _ _ _) (by rfl) (by exact .inl rfl) hr hgw)
  by_cases g123 : y = 123
  · have f := g123
    have hc := lit 123 f
    rw [hc] at hget
    rw [atom_is g hget, if_neg (by decide), if_neg (by decide), if_neg (by decide), if_neg (by decide), if_neg (by decide), if_neg (by decide), if_pos (by decide)] at hR
    have HX := Lib.hid hR
    have KF := Lib.hid (fail_new 1 1 rfl b s k g)
    subst f
    clear hR hget hc hy lit hstp hsz
    go_enter Tryd.func58, Tryd.ntmps58
    go_wp2
    go_quiet (fail)
    have hrq := HR.out.drews nq
    have hgq := grown_trans HG.out (grown_drews b nq _)
    have hbq := HB.out.low (below_drews _ nq)
    clear HR HG HB
    have HR := Lib.hid hrq
    have HG := Lib.hid hgq
    have HB := Lib.hid hbq
    clear hrq hgq hbq
    obtain ⟨c0, c1, c2, c3, f1, f2, f3⟩ := HR.out
    obtain ⟨d0, d1, d2, d3, d4, d5, d6, d7, d8, _⟩ := HB.out; obtain ⟨e0, e1, e2, e3, e4, e5, e6, e7, e8⟩ := Box9.freed HB.out
    go_wp2_with (go_at_call 25; (with_reducible refine (Hid.out KF _ (Hid.out HR)).mono ?_); go_must (rintro _ wv ⟨he, hr1, hg1⟩; subst he; have hg2 := grown_trans (Hid.out HG) hg1; have hb2 := Box9.grown (Hid.out HB) hg1 (Nat.ne_of_gt (Hid.out hb)); clear HR; have HR := Lib.hid hr1; clear HG; have HG := Lib.hid hg2; clear HB; have HB := Lib.hid hb2; obtain ⟨c0, c1, c2, c3, f1, f2, f3⟩ := hr1; obtain ⟨d0, d1, d2, d3, d4, d5, d6, d7, d8, _⟩ := HB.out; obtain ⟨e0, e1, e2, e3, e4, e5, e6, e7, e8⟩ := Box9.freed HB.out; clear hg1 hg2 hb2))
    obtain ⟨W3, hW3, hbx, hr, hgw⟩ := endT (.int .i64 0) (.int .u64 0) (.int .u64 0) (.int .u64 0) (.int .u64 0) (.slice none 0 0) (.int .i64 0) (.int .i64 0) (.int .i64 0) hb.out HR.out HG.out HB.out
    unfold put9 at hW3
    rw [← hW3]
    obtain ⟨l0, l1, l2, l3, l4, l5, l6, l7, l8, _⟩ := hbx
    exact bodyPost_ret (v := .agg #[.int .i64 0, .int .u64 0, .int .u64 0, .int .u64 0, .int .u64 0, .slice none 0 0, .int .i64 0, .int .i64 0, .int .i64 0]) (by simp [results, Tryd.results58, go_sem, l0, l1, l2, l3, l4, l5, l6, l7, l8]) rfl (postd_bad HX.out (.mk 0 none4 [] 0 0 0) none 0 (by rfl) (Kids.leaf _ _ _ _ _ _ _ _) (by rfl) (by exact .inl rfl) hr hgw)
  by_cases g40 : y = 40
  · have f := g40
    have hc := lit 40 f
    rw [hc] at hget
    rw [atom_is g hget, if_neg (by decide), if_neg (by decide), if_neg (by decide), if_pos rfl] at hR
    unfold grpD at hR
    by_cases d64 : 64 ≤ d
    · rw [if_pos d64] at hR
      have HX := Lib.hid hR
      have KF := Lib.hid (fail_new 8 8 rfl b s k g)
      have b1 : decide ((64 : Int) ≤ (d : Int)) = true := by simp; omega
      subst f
      clear hR hget hc hy lit hstp hsz
      go_enter Tryd.func58, Tryd.ntmps58
      go_wp2
      go_quiet (fail)
      have hrq := HR.out.drews nq
      have hgq := grown_trans HG.out (grown_drews b nq _)
      have hbq := HB.out.low (below_drews _ nq)
      clear HR HG HB
      have HR := Lib.hid hrq
      have HG := Lib.hid hgq
      have HB := Lib.hid hbq
      clear hrq hgq hbq
      obtain ⟨c0, c1, c2, c3, f1, f2, f3⟩ := HR.out
      obtain ⟨d0, d1, d2, d3, d4, d5, d6, d7, d8, _⟩ := HB.out; obtain ⟨e0, e1, e2, e3, e4, e5, e6, e7, e8⟩ := Box9.freed HB.out
      go_wp2_with (go_at_call 25; (with_reducible refine (Hid.out KF _ (Hid.out HR)).mono ?_); go_must (rintro _ wv ⟨he, hr1, hg1⟩; subst he; have hg2 := grown_trans (Hid.out HG) hg1; have hb2 := Box9.grown (Hid.out HB) hg1 (Nat.ne_of_gt (Hid.out hb)); clear HR; have HR := Lib.hid hr1; clear HG; have HG := Lib.hid hg2; clear HB; have HB := Lib.hid hb2; obtain ⟨c0, c1, c2, c3, f1, f2, f3⟩ := hr1; obtain ⟨d0, d1, d2, d3, d4, d5, d6, d7, d8, _⟩ := HB.out; obtain ⟨e0, e1, e2, e3, e4, e5, e6, e7, e8⟩ := Box9.freed HB.out; clear hg1 hg2 hb2))
      obtain ⟨W3, hW3, hbx, hr, hgw⟩ := endT (.int .i64 0) (.int .u64 0) (.int .u64 0) (.int .u64 0) (.int .u64 0) (.slice none 0 0) (.int .i64 0) (.int .i64 0) (.int .i64 0) hb.out HR.out HG.out HB.out
      unfold put9 at hW3
      rw [← hW3]
      obtain ⟨l0, l1, l2, l3, l4, l5, l6, l7, l8, _⟩ := hbx
      exact bodyPost_ret (v := .agg #[.int .i64 0, .int .u64 0, .int .u64 0, .int .u64 0, .int .u64 0, .slice none 0 0, .int .i64 0, .int .i64 0, .int .i64 0]) (by simp [results, Tryd.results58, go_sem, l0, l1, l2, l3, l4, l5, l6, l7, l8]) rfl (postd_bad HX.out (.mk 0 none4 [] 0 0 0) none 0 (by rfl) (Kids.leaf _ _ _ _ _ _ _ _) (by rfl) (by exact .inr rfl) hr hgw)
    · rw [if_neg d64] at hR
      unfold grpR at hR
      have b1 : decide ((64 : Int) ≤ (d : Int)) = false := by simp; omega
      have hexd := hex (by omega)
      obtain ⟨k1, hk1⟩ : ∃ k1, k1 = k + 1 := ⟨_, rfl⟩
      obtain ⟨g1, hg1⟩ : ∃ g1, g1 = g + 1 := ⟨_, rfl⟩
      have HK1 := Lib.hid hk1
      have HG1 := Lib.hid hg1
      have hk1s : k1 ≤ s.size := by omega
      have hgk1 : g1 ≤ k1 := by omega
      rw [← hk1, ← hg1] at hR
      obtain ⟨sa1, sa2⟩ := hsane k1 g1 hk1s hgk1
      subst f
      rcases hgg : ex k1 g1 with ⟨q, er⟩ | ⟨x, q, g'⟩
      · by_cases n9 : (g : Int) + 1 ≤ 9
        · have b9 : decide ((g : Int) + 1 ≤ 9) = true := by simp; omega
          have her := sa1 q er hgg
          obtain ⟨zz, hzz⟩ : ∃ zz : Nat, er = zz := ⟨er.toNat, by omega⟩
          have hz18 : zz = 1 ∨ zz = 8 := by omega
          have KG := Lib.hid (ex_bad hexd b (k := k1) (g := g1) (q := q) (z := zz) ((d : Int) + 1) (by simp) hk1s hgk1 hgg hzz)
          rw [hgg] at hR
          have HX := Lib.hid hR
          have HZ := Lib.hid hz18
          have HZZ := Lib.hid hzz
          have KS : Hid (∀ g2, IsT b s g2 zz q 41 false) := Lib.hid fun g2 => is_t 41 41 rfl b s q g2 zz (by omega) false (is_bad s q 41 (by omega))
          have KF : Hid (∀ g2, FailT b s q g2 zz zz 1) := Lib.hid fun g2 => fail_old 1 1 rfl b s q g2 (by omega) (by omega)
          simp only [IsT, FailT] at KS KF
          clear hR hget hc hy lit hstp hsz hgg sa1 sa2 her hz18 hzz hk1 hg1 hexd hex hsane
          go_enter Tryd.func58, Tryd.ntmps58
          go_wp2
          go_quiet (fail)
          have hrq := HR.out.drews nq
          have hgq := grown_trans HG.out (grown_drews b nq _)
          have hbq := HB.out.low (below_drews _ nq)
          clear HR HG HB
          have HR := Lib.hid hrq
          have HG := Lib.hid hgq
          have HB := Lib.hid hbq
          clear hrq hgq hbq
          obtain ⟨c0, c1, c2, c3, f1, f2, f3⟩ := HR.out
          obtain ⟨d0, d1, d2, d3, d4, d5, d6, d7, d8, _⟩ := HB.out; obtain ⟨e0, e1, e2, e3, e4, e5, e6, e7, e8⟩ := Box9.freed HB.out
          have HR0 := Lib.hid HR.out
          have HGC := Lib.hid (grown_trans (grown_trans HG.out (grown_set b 1 _ (.int .i64 ((k : Int) + 1)))) (grown_set b 2 _ (.int .i64 ((g : Int) + 1))))
          have HBC := Lib.hid ((HB.out.other (a := ⟨b, 1, none⟩) (Nat.ne_of_lt hb.out) (.int .i64 ((k : Int) + 1))).other (a := ⟨b, 2, none⟩) (Nat.ne_of_lt hb.out) (.int .i64 ((g : Int) + 1)))
          go_wp2_with (first
            | (go_at_call 24; refine (KG.out _ (by have e1 := HK1.out; have e2 := HG1.out; subst e1 e2; exact (HR0.out.at_ (k + 1)).groups_ (g + 1))).mono ?_; go_must (rintro _ wx ⟨⟨⟨kx, S, ks, lo, hi, n⟩, A, c, he⟩, ⟨g2, hr1⟩, hg1⟩; have he2 : _ = Ending.returned (.agg #[.int .i64 kx, .int .u64 S.1.toNat, .int .u64 S.2.1.toNat, .int .u64 S.2.2.1.toNat, .int .u64 S.2.2.2.toNat, .slice A ks.length c, .int .i64 lo, .int .i64 hi, .int .i64 n]) := he; clear he; subst he2; have ha := grown_below (b := b) (one_box wx (.cells #[.int .i64 kx, .int .u64 S.1.toNat, .int .u64 S.2.1.toNat, .int .u64 S.2.2.1.toNat, .int .u64 S.2.2.2.toNat, .slice A ks.length c, .int .i64 lo, .int .i64 hi, .int .i64 n] 27)); have hr2 := hr1.low (one_box wx (.cells #[.int .i64 kx, .int .u64 S.1.toNat, .int .u64 S.2.1.toNat, .int .u64 S.2.2.1.toNat, .int .u64 S.2.2.2.toNat, .slice A ks.length c, .int .i64 lo, .int .i64 hi, .int .i64 n] 27)); have hg2 := grown_trans (grown_trans HGC.out hg1) ha; have hb2 := (HBC.out.grown hg1 (Nat.ne_of_gt hb.out)).grown ha (Nat.ne_of_gt hb.out); clear HR HG HB; have HR := Lib.hid hr2; have HG := Lib.hid hg2; have HB := Lib.hid hb2; obtain ⟨c0, c1, c2, c3, f1, f2, f3⟩ := hr2; obtain ⟨d0, d1, d2, d3, d4, d5, d6, d7, d8, _⟩ := HB.out; obtain ⟨e0, e1, e2, e3, e4, e5, e6, e7, e8⟩ := Box9.freed HB.out; clear hr1 hg1 ha hg2 hb2))
            | (go_at_call 39; (with_reducible refine (Hid.out KS _ _ (Hid.out HR)).mono ?_); go_must (rintro _ wv ⟨he, hr1, hg1⟩; subst he; have hg2 := grown_trans (Hid.out HG) hg1; have hb2 := Box9.grown (Hid.out HB) hg1 (Nat.ne_of_gt (Hid.out hb)); clear HR; have HR := Lib.hid hr1; clear HG; have HG := Lib.hid hg2; clear HB; have HB := Lib.hid hb2; obtain ⟨c0, c1, c2, c3, f1, f2, f3⟩ := hr1; obtain ⟨d0, d1, d2, d3, d4, d5, d6, d7, d8, _⟩ := HB.out; obtain ⟨e0, e1, e2, e3, e4, e5, e6, e7, e8⟩ := Box9.freed HB.out; clear hg1 hg2 hb2))
            | (go_at_call 25; (with_reducible refine (Hid.out KF _ _ (Hid.out HR)).mono ?_); go_must (rintro _ wv ⟨he, hr1, hg1⟩; subst he; have hg2 := grown_trans (Hid.out HG) hg1; have hb2 := Box9.grown (Hid.out HB) hg1 (Nat.ne_of_gt (Hid.out hb)); clear HR; have HR := Lib.hid hr1; clear HG; have HG := Lib.hid hg2; clear HB; have HB := Lib.hid hb2; obtain ⟨c0, c1, c2, c3, f1, f2, f3⟩ := hr1; obtain ⟨d0, d1, d2, d3, d4, d5, d6, d7, d8, _⟩ := HB.out; obtain ⟨e0, e1, e2, e3, e4, e5, e6, e7, e8⟩ := Box9.freed HB.out; clear hg1 hg2 hb2)))
          obtain ⟨W3, hW3, hbx, hr, hgw⟩ := endT (.int .i64 0) (.int .u64 0) (.int .u64 0) (.int .u64 0) (.int .u64 0) (.slice none 0 0) (.int .i64 0) (.int .i64 0) (.int .i64 0) hb.out HR.out HG.out HB.out
          unfold put9 at hW3
          rw [← hW3]
          obtain ⟨l0, l1, l2, l3, l4, l5, l6, l7, l8, _⟩ := hbx
          exact bodyPost_ret (v := .agg #[.int .i64 0, .int .u64 0, .int .u64 0, .int .u64 0, .int .u64 0, .slice none 0 0, .int .i64 0, .int .i64 0, .int .i64 0]) (by simp [results, Tryd.results58, go_sem, l0, l1, l2, l3, l4, l5, l6, l7, l8]) rfl (postd_bad HX.out (.mk 0 none4 [] 0 0 0) none 0 (by rfl) (Kids.leaf _ _ _ _ _ _ _ _) HZZ.out HZ.out hr hgw)
        · have b9 : decide ((g : Int) + 1 ≤ 9) = false := by simp; omega
          have her := sa1 q er hgg
          obtain ⟨zz, hzz⟩ : ∃ zz : Nat, er = zz := ⟨er.toNat, by omega⟩
          have hz18 : zz = 1 ∨ zz = 8 := by omega
          have KG := Lib.hid (ex_bad hexd b (k := k1) (g := g1) (q := q) (z := zz) ((d : Int) + 1) (by simp) hk1s hgk1 hgg hzz)
          rw [hgg] at hR
          have HX := Lib.hid hR
          have HZ := Lib.hid hz18
          have HZZ := Lib.hid hzz
          have KS : Hid (∀ g2, IsT b s g2 zz q 41 false) := Lib.hid fun g2 => is_t 41 41 rfl b s q g2 zz (by omega) false (is_bad s q 41 (by omega))
          have KF : Hid (∀ g2, FailT b s q g2 zz zz 1) := Lib.hid fun g2 => fail_old 1 1 rfl b s q g2 (by omega) (by omega)
          simp only [IsT, FailT] at KS KF
          clear hR hget hc hy lit hstp hsz hgg sa1 sa2 her hz18 hzz hk1 hg1 hexd hex hsane
          go_enter Tryd.func58, Tryd.ntmps58
          go_wp2
          go_quiet (fail)
          have hrq := HR.out.drews nq
          have hgq := grown_trans HG.out (grown_drews b nq _)
          have hbq := HB.out.low (below_drews _ nq)
          clear HR HG HB
          have HR := Lib.hid hrq
          have HG := Lib.hid hgq
          have HB := Lib.hid hbq
          clear hrq hgq hbq
          obtain ⟨c0, c1, c2, c3, f1, f2, f3⟩ := HR.out
          obtain ⟨d0, d1, d2, d3, d4, d5, d6, d7, d8, _⟩ := HB.out; obtain ⟨e0, e1, e2, e3, e4, e5, e6, e7, e8⟩ := Box9.freed HB.out
          have HR0 := Lib.hid HR.out
          have HGC := Lib.hid (grown_trans (grown_trans HG.out (grown_set b 1 _ (.int .i64 ((k : Int) + 1)))) (grown_set b 2 _ (.int .i64 ((g : Int) + 1))))
          have HBC := Lib.hid ((HB.out.other (a := ⟨b, 1, none⟩) (Nat.ne_of_lt hb.out) (.int .i64 ((k : Int) + 1))).other (a := ⟨b, 2, none⟩) (Nat.ne_of_lt hb.out) (.int .i64 ((g : Int) + 1)))
          go_wp2_with (first
            | (go_at_call 24; refine (KG.out _ (by have e1 := HK1.out; have e2 := HG1.out; subst e1 e2; exact (HR0.out.at_ (k + 1)).groups_ (g + 1))).mono ?_; go_must (rintro _ wx ⟨⟨⟨kx, S, ks, lo, hi, n⟩, A, c, he⟩, ⟨g2, hr1⟩, hg1⟩; have he2 : _ = Ending.returned (.agg #[.int .i64 kx, .int .u64 S.1.toNat, .int .u64 S.2.1.toNat, .int .u64 S.2.2.1.toNat, .int .u64 S.2.2.2.toNat, .slice A ks.length c, .int .i64 lo, .int .i64 hi, .int .i64 n]) := he; clear he; subst he2; have ha := grown_below (b := b) (one_box wx (.cells #[.int .i64 kx, .int .u64 S.1.toNat, .int .u64 S.2.1.toNat, .int .u64 S.2.2.1.toNat, .int .u64 S.2.2.2.toNat, .slice A ks.length c, .int .i64 lo, .int .i64 hi, .int .i64 n] 27)); have hr2 := hr1.low (one_box wx (.cells #[.int .i64 kx, .int .u64 S.1.toNat, .int .u64 S.2.1.toNat, .int .u64 S.2.2.1.toNat, .int .u64 S.2.2.2.toNat, .slice A ks.length c, .int .i64 lo, .int .i64 hi, .int .i64 n] 27)); have hg2 := grown_trans (grown_trans HGC.out hg1) ha; have hb2 := (HBC.out.grown hg1 (Nat.ne_of_gt hb.out)).grown ha (Nat.ne_of_gt hb.out); clear HR HG HB; have HR := Lib.hid hr2; have HG := Lib.hid hg2; have HB := Lib.hid hb2; obtain ⟨c0, c1, c2, c3, f1, f2, f3⟩ := hr2; obtain ⟨d0, d1, d2, d3, d4, d5, d6, d7, d8, _⟩ := HB.out; obtain ⟨e0, e1, e2, e3, e4, e5, e6, e7, e8⟩ := Box9.freed HB.out; clear hr1 hg1 ha hg2 hb2))
            | (go_at_call 39; (with_reducible refine (Hid.out KS _ _ (Hid.out HR)).mono ?_); go_must (rintro _ wv ⟨he, hr1, hg1⟩; subst he; have hg2 := grown_trans (Hid.out HG) hg1; have hb2 := Box9.grown (Hid.out HB) hg1 (Nat.ne_of_gt (Hid.out hb)); clear HR; have HR := Lib.hid hr1; clear HG; have HG := Lib.hid hg2; clear HB; have HB := Lib.hid hb2; obtain ⟨c0, c1, c2, c3, f1, f2, f3⟩ := hr1; obtain ⟨d0, d1, d2, d3, d4, d5, d6, d7, d8, _⟩ := HB.out; obtain ⟨e0, e1, e2, e3, e4, e5, e6, e7, e8⟩ := Box9.freed HB.out; clear hg1 hg2 hb2))
            | (go_at_call 25; (with_reducible refine (Hid.out KF _ _ (Hid.out HR)).mono ?_); go_must (rintro _ wv ⟨he, hr1, hg1⟩; subst he; have hg2 := grown_trans (Hid.out HG) hg1; have hb2 := Box9.grown (Hid.out HB) hg1 (Nat.ne_of_gt (Hid.out hb)); clear HR; have HR := Lib.hid hr1; clear HG; have HG := Lib.hid hg2; clear HB; have HB := Lib.hid hb2; obtain ⟨c0, c1, c2, c3, f1, f2, f3⟩ := hr1; obtain ⟨d0, d1, d2, d3, d4, d5, d6, d7, d8, _⟩ := HB.out; obtain ⟨e0, e1, e2, e3, e4, e5, e6, e7, e8⟩ := Box9.freed HB.out; clear hg1 hg2 hb2)))
          obtain ⟨W3, hW3, hbx, hr, hgw⟩ := endT (.int .i64 0) (.int .u64 0) (.int .u64 0) (.int .u64 0) (.int .u64 0) (.slice none 0 0) (.int .i64 0) (.int .i64 0) (.int .i64 0) hb.out HR.out HG.out HB.out
          unfold put9 at hW3
          rw [← hW3]
          obtain ⟨l0, l1, l2, l3, l4, l5, l6, l7, l8, _⟩ := hbx
          exact bodyPost_ret (v := .agg #[.int .i64 0, .int .u64 0, .int .u64 0, .int .u64 0, .int .u64 0, .slice none 0 0, .int .i64 0, .int .i64 0, .int .i64 0]) (by simp [results, Tryd.results58, go_sem, l0, l1, l2, l3, l4, l5, l6, l7, l8]) rfl (postd_bad HX.out (.mk 0 none4 [] 0 0 0) none 0 (by rfl) (Kids.leaf _ _ _ _ _ _ _ _) HZZ.out HZ.out hr hgw)
      · by_cases n9 : (g : Int) + 1 ≤ 9
        · have b9 : decide ((g : Int) + 1 ≤ 9) = true := by simp; omega
          obtain ⟨kx, S, ks, lo, hi, n⟩ := x
          have KG := Lib.hid (ex_ok hexd b (k := k1) (g := g1) ((d : Int) + 1) (by simp) hk1s hgk1 hgg)
          have hq := sa2 _ q g' hgg
          rw [hgg] at hR
          dsimp only at hR
          have hnum : num g1 = ((g : Int) + 1) := by unfold num; split <;> omega
          rw [hnum] at hR
          have hqb : (q : Int) ≤ 200 := by omega
          by_cases h41 : s.data.toList[q]? = some 41
          · rw [if_pos h41] at hR
            have HX : Hid (R = .ok (.mk 7 none4 [.mk kx S ks lo hi n] 0 0 ((g : Int) + 1)) (q + 1) g') := Lib.hid hR
            have HQ : Hid (g' ≤ q + 1) := Lib.hid (by omega)
            have KS := Lib.hid (is_t 41 41 rfl b s q g' 0 (by omega) true (is_yes h41))
            clear hR hget hc hy lit hstp hsz hgg sa1 sa2 hk1 hg1 hexd hex hsane hnum hq h41
            go_enter Tryd.func58, Tryd.ntmps58
            go_wp2
            go_quiet (fail)
            have hrq := HR.out.drews nq
            have hgq := grown_trans HG.out (grown_drews b nq _)
            have hbq := HB.out.low (below_drews _ nq)
            clear HR HG HB
            have HR := Lib.hid hrq
            have HG := Lib.hid hgq
            have HB := Lib.hid hbq
            clear hrq hgq hbq
            obtain ⟨c0, c1, c2, c3, f1, f2, f3⟩ := HR.out
            obtain ⟨d0, d1, d2, d3, d4, d5, d6, d7, d8, _⟩ := HB.out; obtain ⟨e0, e1, e2, e3, e4, e5, e6, e7, e8⟩ := Box9.freed HB.out
            have HR0 := Lib.hid HR.out
            have HGC := Lib.hid (grown_trans (grown_trans HG.out (grown_set b 1 _ (.int .i64 ((k : Int) + 1)))) (grown_set b 2 _ (.int .i64 ((g : Int) + 1))))
            have HBC := Lib.hid ((HB.out.other (a := ⟨b, 1, none⟩) (Nat.ne_of_lt hb.out) (.int .i64 ((k : Int) + 1))).other (a := ⟨b, 2, none⟩) (Nat.ne_of_lt hb.out) (.int .i64 ((g : Int) + 1)))
            go_wp2_with (first
              | (go_at_call 24; refine (KG.out _ (by have e1 := HK1.out; have e2 := HG1.out; subst e1 e2; exact (HR0.out.at_ (k + 1)).groups_ (g + 1))).mono ?_; go_must (rintro _ wx ⟨⟨A, c, he, hkid⟩, hr1, hg1⟩; have he2 : _ = Ending.returned (.agg #[.int .i64 kx, .int .u64 S.1.toNat, .int .u64 S.2.1.toNat, .int .u64 S.2.2.1.toNat, .int .u64 S.2.2.2.toNat, .slice A ks.length c, .int .i64 lo, .int .i64 hi, .int .i64 n]) := he; clear he; subst he2; have ha := grown_below (b := b) (one_box wx (.cells #[.int .i64 kx, .int .u64 S.1.toNat, .int .u64 S.2.1.toNat, .int .u64 S.2.2.1.toNat, .int .u64 S.2.2.2.toNat, .slice A ks.length c, .int .i64 lo, .int .i64 hi, .int .i64 n] 27)); have HSZ : Hid (w.heap.size + 1 ≤ wx.heap.size) := Lib.hid (by have := hg1.size; simpa [World.setCell] using this); have hr2 := hr1.low (one_box wx (.cells #[.int .i64 kx, .int .u64 S.1.toNat, .int .u64 S.2.1.toNat, .int .u64 S.2.2.1.toNat, .int .u64 S.2.2.2.toNat, .slice A ks.length c, .int .i64 lo, .int .i64 hi, .int .i64 n] 27)); have hg2 := grown_trans (grown_trans HGC.out hg1) ha; have hb2 := (HBC.out.grown hg1 (Nat.ne_of_gt hb.out)).grown ha (Nat.ne_of_gt hb.out); have hp2 := Box9.new wx (.int .i64 kx) (.int .u64 S.1.toNat) (.int .u64 S.2.1.toNat) (.int .u64 S.2.2.1.toNat) (.int .u64 S.2.2.2.toNat) (.slice A ks.length c) (.int .i64 lo) (.int .i64 hi) (.int .i64 n); have hk2 := (hkid.grownF ha (.inl HR0.out.lt0) (Nat.le_refl _)); clear HR HG HB; have HR := Lib.hid hr2; have HG := Lib.hid hg2; have HB := Lib.hid hb2; have HP := Lib.hid hp2; have HK := Lib.hid hk2; obtain ⟨c0, c1, c2, c3, f1, f2, f3⟩ := hr2; obtain ⟨p0, p1, p2, p3, p4, p5, p6, p7, p8, _⟩ := hp2; obtain ⟨d0, d1, d2, d3, d4, d5, d6, d7, d8, _⟩ := HB.out; obtain ⟨e0, e1, e2, e3, e4, e5, e6, e7, e8⟩ := Box9.freed HB.out; clear hr1 hg1 ha hg2 hb2 hk2 hkid))
              | (go_at_call 39; (with_reducible refine (Hid.out KS _ (Hid.out HR)).mono ?_); go_must (rintro _ wv ⟨he, hr1, hg1⟩; subst he; have hg2 := grown_trans (Hid.out HG) hg1; have hb2 := Box9.grown (Hid.out HB) hg1 (Nat.ne_of_gt (Hid.out hb)); have hwz := hg1.size; have HWZ : Hid (wx.heap.size + 1 ≤ wv.heap.size) := Lib.hid (by simpa using hwz); clear hwz; have hp2 := Box9.grown HP.out hg1 (Nat.ne_of_gt (Nat.lt_of_lt_of_le hb.out (Nat.le_trans (Nat.le_succ _) HSZ.out))); have hk2 := HK.out.grownF hg1 (.inl HR0.out.lt0) (by simp); clear HP; have HP := Lib.hid hp2; clear HK; have HK := Lib.hid hk2; have hpf := Box9.other hp2 (a := ⟨b, 1, none⟩) (Nat.ne_of_lt (Nat.lt_of_lt_of_le hb.out (Nat.le_trans (Nat.le_succ _) HSZ.out))) (.int .i64 ((q : Int) + 1)); obtain ⟨P0, P1, P2, P3, P4, P5, P6, P7, P8, _⟩ := hpf; have hbf := (Box9.other hb2 (a := ⟨b, 1, none⟩) (Nat.ne_of_lt hb.out) (.int .i64 ((q : Int) + 1))).low (one_box _ (.cells #[.int .i64 kx, .int .u64 S.1.toNat, .int .u64 S.2.1.toNat, .int .u64 S.2.2.1.toNat, .int .u64 S.2.2.2.toNat, .slice A ks.length c, .int .i64 lo, .int .i64 hi, .int .i64 n] 27)); obtain ⟨E0, E1, E2, E3, E4, E5, E6, E7, E8⟩ := Box9.freed hbf; obtain ⟨D0, D1, D2, D3, D4, D5, D6, D7, D8, _⟩ := hbf; obtain ⟨p0, p1, p2, p3, p4, p5, p6, p7, p8, _⟩ := hp2; clear hk2; clear HR; have HR := Lib.hid hr1; clear HG; have HG := Lib.hid hg2; clear HB; have HB := Lib.hid hb2; obtain ⟨c0, c1, c2, c3, f1, f2, f3⟩ := hr1; obtain ⟨d0, d1, d2, d3, d4, d5, d6, d7, d8, _⟩ := HB.out; obtain ⟨e0, e1, e2, e3, e4, e5, e6, e7, e8⟩ := Box9.freed HB.out; clear hg1 hg2 hb2)))
            obtain ⟨W3, hW3, hbx, hr, hgw⟩ := endT (.int .i64 7) (.int .u64 0) (.int .u64 0) (.int .u64 0) (.int .u64 0) (.slice (some ⟨wv.heap.size, 0, none⟩) 1 1) (.int .i64 0) (.int .i64 0) (.int .i64 ((g : Int) + 1)) hb.out ((Rdr.incz HR.out ((q : Int) + 1) rfl).low (one_box _ (.cells #[.int .i64 kx, .int .u64 S.1.toNat, .int .u64 S.2.1.toNat, .int .u64 S.2.2.1.toNat, .int .u64 S.2.2.2.toNat, .slice A ks.length c, .int .i64 lo, .int .i64 hi, .int .i64 n] 27))) (grown_trans (grown_trans HG.out (grown_set b 1 _ (.int .i64 ((q : Int) + 1)))) (grown_below (one_box _ (.cells #[.int .i64 kx, .int .u64 S.1.toNat, .int .u64 S.2.1.toNat, .int .u64 S.2.2.1.toNat, .int .u64 S.2.2.2.toNat, .slice A ks.length c, .int .i64 lo, .int .i64 hi, .int .i64 n] 27)))) ((Box9.other HB.out (a := ⟨b, 1, none⟩) (Nat.ne_of_lt hb.out) (.int .i64 ((q : Int) + 1))).low (one_box _ (.cells #[.int .i64 kx, .int .u64 S.1.toNat, .int .u64 S.2.1.toNat, .int .u64 S.2.2.1.toNat, .int .u64 S.2.2.2.toNat, .slice A ks.length c, .int .i64 lo, .int .i64 hi, .int .i64 n] 27)))
            have KK : Kids (Fr w.heap.size W3.heap.size) W3 (some ⟨wv.heap.size, 0, none⟩) (.mk 7 none4 [.mk kx S ks lo hi n] 0 0 ((g : Int) + 1)) := by
              have hs2 := congrArg (fun W => W.heap.size) hW3
              simp only [size_put9] at hs2
              have hbw := hb.out
              have hz := HSZ.out
              have hv := HWZ.out
              have hs3 : W3.heap.size = wv.heap.size + 1 := by rw [hs2]; simp [World.setCell]
              rw [hs3, hW3]
              have hn9 := Box9.new (wv.setCell ⟨b, 1, none⟩ (.int .i64 ((q : Int) + 1))) (.int .i64 kx) (.int .u64 S.1.toNat) (.int .u64 S.2.1.toNat) (.int .u64 S.2.2.1.toNat) (.int .u64 S.2.2.2.toNat) (.slice A ks.length c) (.int .i64 lo) (.int .i64 hi) (.int .i64 n)
              rw [size_set] at hn9
              refine kids_one (hn9.past (by omega) _ _ _ _ _ _ _ _ _) ?_ ⟨by omega, by omega⟩ 7 none4 0 0 ((g : Int) + 1)
              have h1 := HK.out.setF (a := ⟨b, 1, none⟩) (.inl HR0.out.lt0) (.int .i64 ((q : Int) + 1))
              have h2 := h1.grownF (b := b) (grown_below (one_box _ (.cells #[.int .i64 kx, .int .u64 S.1.toNat, .int .u64 S.2.1.toNat, .int .u64 S.2.2.1.toNat, .int .u64 S.2.2.2.toNat, .slice A ks.length c, .int .i64 lo, .int .i64 hi, .int .i64 n] 27))) (.inl HR0.out.lt0) (by rw [size_set]; omega)
              exact (h2.put9 (.inl (World.block_lt_of_cell? _ _ HBC.out.c0)) _ _ _ _ _ _ _ _ _).wide HGC.out.size (by omega)
            unfold put9 at hW3
            rw [← hW3]
            obtain ⟨l0, l1, l2, l3, l4, l5, l6, l7, l8, _⟩ := hbx
            exact bodyPost_ret (v := .agg #[.int .i64 7, .int .u64 0, .int .u64 0, .int .u64 0, .int .u64 0, .slice (some ⟨wv.heap.size, 0, none⟩) 1 1, .int .i64 0, .int .i64 0, .int .i64 ((g : Int) + 1)]) (by simp [results, Tryd.results58, go_sem, l0, l1, l2, l3, l4, l5, l6, l7, l8]) rfl (postd_ok HX.out (some ⟨wv.heap.size, 0, none⟩) 1 (by rfl) KK HQ.out hr hgw)
          · rw [if_neg h41] at hR
            have HX := Lib.hid hR
            have KS := Lib.hid (is_t 41 41 rfl b s q g' 0 (by omega) false (is_no h41))
            have KF := Lib.hid (fail_new 1 1 rfl b s q g')
            clear hR hget hc hy lit hstp hsz hgg sa1 sa2 hk1 hg1 hexd hex hsane hnum hq h41
            go_enter Tryd.func58, Tryd.ntmps58
            go_wp2
            go_quiet (fail)
            have hrq := HR.out.drews nq
            have hgq := grown_trans HG.out (grown_drews b nq _)
            have hbq := HB.out.low (below_drews _ nq)
            clear HR HG HB
            have HR := Lib.hid hrq
            have HG := Lib.hid hgq
            have HB := Lib.hid hbq
            clear hrq hgq hbq
            obtain ⟨c0, c1, c2, c3, f1, f2, f3⟩ := HR.out
            obtain ⟨d0, d1, d2, d3, d4, d5, d6, d7, d8, _⟩ := HB.out; obtain ⟨e0, e1, e2, e3, e4, e5, e6, e7, e8⟩ := Box9.freed HB.out
            have HR0 := Lib.hid HR.out
            have HGC := Lib.hid (grown_trans (grown_trans HG.out (grown_set b 1 _ (.int .i64 ((k : Int) + 1)))) (grown_set b 2 _ (.int .i64 ((g : Int) + 1))))
            have HBC := Lib.hid ((HB.out.other (a := ⟨b, 1, none⟩) (Nat.ne_of_lt hb.out) (.int .i64 ((k : Int) + 1))).other (a := ⟨b, 2, none⟩) (Nat.ne_of_lt hb.out) (.int .i64 ((g : Int) + 1)))
            go_wp2_with (first
              | (go_at_call 24; refine (KG.out _ (by have e1 := HK1.out; have e2 := HG1.out; subst e1 e2; exact (HR0.out.at_ (k + 1)).groups_ (g + 1))).mono ?_; go_must (rintro _ wx ⟨⟨A, c, he, hkid⟩, hr1, hg1⟩; have he2 : _ = Ending.returned (.agg #[.int .i64 kx, .int .u64 S.1.toNat, .int .u64 S.2.1.toNat, .int .u64 S.2.2.1.toNat, .int .u64 S.2.2.2.toNat, .slice A ks.length c, .int .i64 lo, .int .i64 hi, .int .i64 n]) := he; clear he; subst he2; have ha := grown_below (b := b) (one_box wx (.cells #[.int .i64 kx, .int .u64 S.1.toNat, .int .u64 S.2.1.toNat, .int .u64 S.2.2.1.toNat, .int .u64 S.2.2.2.toNat, .slice A ks.length c, .int .i64 lo, .int .i64 hi, .int .i64 n] 27)); have HSZ : Hid (w.heap.size + 1 ≤ wx.heap.size) := Lib.hid (by have := hg1.size; simpa [World.setCell] using this); have hr2 := hr1.low (one_box wx (.cells #[.int .i64 kx, .int .u64 S.1.toNat, .int .u64 S.2.1.toNat, .int .u64 S.2.2.1.toNat, .int .u64 S.2.2.2.toNat, .slice A ks.length c, .int .i64 lo, .int .i64 hi, .int .i64 n] 27)); have hg2 := grown_trans (grown_trans HGC.out hg1) ha; have hb2 := (HBC.out.grown hg1 (Nat.ne_of_gt hb.out)).grown ha (Nat.ne_of_gt hb.out); have hp2 := Box9.new wx (.int .i64 kx) (.int .u64 S.1.toNat) (.int .u64 S.2.1.toNat) (.int .u64 S.2.2.1.toNat) (.int .u64 S.2.2.2.toNat) (.slice A ks.length c) (.int .i64 lo) (.int .i64 hi) (.int .i64 n); have hk2 := (hkid.grownF ha (.inl HR0.out.lt0) (Nat.le_refl _)); clear HR HG HB; have HR := Lib.hid hr2; have HG := Lib.hid hg2; have HB := Lib.hid hb2; have HP := Lib.hid hp2; have HK := Lib.hid hk2; obtain ⟨c0, c1, c2, c3, f1, f2, f3⟩ := hr2; obtain ⟨p0, p1, p2, p3, p4, p5, p6, p7, p8, _⟩ := hp2; obtain ⟨d0, d1, d2, d3, d4, d5, d6, d7, d8, _⟩ := HB.out; obtain ⟨e0, e1, e2, e3, e4, e5, e6, e7, e8⟩ := Box9.freed HB.out; clear hr1 hg1 ha hg2 hb2 hk2 hkid))
              | (go_at_call 39; (with_reducible refine (Hid.out KS _ (Hid.out HR)).mono ?_); go_must (rintro _ wv ⟨he, hr1, hg1⟩; subst he; have hg2 := grown_trans (Hid.out HG) hg1; have hb2 := Box9.grown (Hid.out HB) hg1 (Nat.ne_of_gt (Hid.out hb)); clear HR; have HR := Lib.hid hr1; clear HG; have HG := Lib.hid hg2; clear HB; have HB := Lib.hid hb2; obtain ⟨c0, c1, c2, c3, f1, f2, f3⟩ := hr1; obtain ⟨d0, d1, d2, d3, d4, d5, d6, d7, d8, _⟩ := HB.out; obtain ⟨e0, e1, e2, e3, e4, e5, e6, e7, e8⟩ := Box9.freed HB.out; clear hg1 hg2 hb2))
              | (go_at_call 25; (with_reducible refine (Hid.out KF _ (Hid.out HR)).mono ?_); go_must (rintro _ wv ⟨he, hr1, hg1⟩; subst he; have hg2 := grown_trans (Hid.out HG) hg1; have hb2 := Box9.grown (Hid.out HB) hg1 (Nat.ne_of_gt (Hid.out hb)); clear HR; have HR := Lib.hid hr1; clear HG; have HG := Lib.hid hg2; clear HB; have HB := Lib.hid hb2; obtain ⟨c0, c1, c2, c3, f1, f2, f3⟩ := hr1; obtain ⟨d0, d1, d2, d3, d4, d5, d6, d7, d8, _⟩ := HB.out; obtain ⟨e0, e1, e2, e3, e4, e5, e6, e7, e8⟩ := Box9.freed HB.out; clear hg1 hg2 hb2)))
            obtain ⟨W3, hW3, hbx, hr, hgw⟩ := endT (.int .i64 0) (.int .u64 0) (.int .u64 0) (.int .u64 0) (.int .u64 0) (.slice none 0 0) (.int .i64 0) (.int .i64 0) (.int .i64 0) hb.out HR.out HG.out HB.out
            unfold put9 at hW3
            rw [← hW3]
            obtain ⟨l0, l1, l2, l3, l4, l5, l6, l7, l8, _⟩ := hbx
            exact bodyPost_ret (v := .agg #[.int .i64 0, .int .u64 0, .int .u64 0, .int .u64 0, .int .u64 0, .slice none 0 0, .int .i64 0, .int .i64 0, .int .i64 0]) (by simp [results, Tryd.results58, go_sem, l0, l1, l2, l3, l4, l5, l6, l7, l8]) rfl (postd_bad HX.out (.mk 0 none4 [] 0 0 0) none 0 (by rfl) (Kids.leaf _ _ _ _ _ _ _ _) (by rfl) (by exact .inl rfl) hr hgw)
        · have b9 : decide ((g : Int) + 1 ≤ 9) = false := by simp; omega
          obtain ⟨kx, S, ks, lo, hi, n⟩ := x
          have KG := Lib.hid (ex_ok hexd b (k := k1) (g := g1) ((d : Int) + 1) (by simp) hk1s hgk1 hgg)
          have hq := sa2 _ q g' hgg
          rw [hgg] at hR
          dsimp only at hR
          have hnum : num g1 = 0 := by unfold num; split <;> omega
          rw [hnum] at hR
          have hqb : (q : Int) ≤ 200 := by omega
          by_cases h41 : s.data.toList[q]? = some 41
          · rw [if_pos h41] at hR
            have HX : Hid (R = .ok (.mk 7 none4 [.mk kx S ks lo hi n] 0 0 0) (q + 1) g') := Lib.hid hR
            have HQ : Hid (g' ≤ q + 1) := Lib.hid (by omega)
            have KS := Lib.hid (is_t 41 41 rfl b s q g' 0 (by omega) true (is_yes h41))
            clear hR hget hc hy lit hstp hsz hgg sa1 sa2 hk1 hg1 hexd hex hsane hnum hq h41
            go_enter Tryd.func58, Tryd.ntmps58
            go_wp2
            go_quiet (fail)
            have hrq := HR.out.drews nq
            have hgq := grown_trans HG.out (grown_drews b nq _)
            have hbq := HB.out.low (below_drews _ nq)
            clear HR HG HB
            have HR := Lib.hid hrq
            have HG := Lib.hid hgq
            have HB := Lib.hid hbq
            clear hrq hgq hbq
            obtain ⟨c0, c1, c2, c3, f1, f2, f3⟩ := HR.out
            obtain ⟨d0, d1, d2, d3, d4, d5, d6, d7, d8, _⟩ := HB.out; obtain ⟨e0, e1, e2, e3, e4, e5, e6, e7, e8⟩ := Box9.freed HB.out
            have HR0 := Lib.hid HR.out
            have HGC := Lib.hid (grown_trans (grown_trans HG.out (grown_set b 1 _ (.int .i64 ((k : Int) + 1)))) (grown_set b 2 _ (.int .i64 ((g : Int) + 1))))
            have HBC := Lib.hid ((HB.out.other (a := ⟨b, 1, none⟩) (Nat.ne_of_lt hb.out) (.int .i64 ((k : Int) + 1))).other (a := ⟨b, 2, none⟩) (Nat.ne_of_lt hb.out) (.int .i64 ((g : Int) + 1)))
            go_wp2_with (first
              | (go_at_call 24; refine (KG.out _ (by have e1 := HK1.out; have e2 := HG1.out; subst e1 e2; exact (HR0.out.at_ (k + 1)).groups_ (g + 1))).mono ?_; go_must (rintro _ wx ⟨⟨A, c, he, hkid⟩, hr1, hg1⟩; have he2 : _ = Ending.returned (.agg #[.int .i64 kx, .int .u64 S.1.toNat, .int .u64 S.2.1.toNat, .int .u64 S.2.2.1.toNat, .int .u64 S.2.2.2.toNat, .slice A ks.length c, .int .i64 lo, .int .i64 hi, .int .i64 n]) := he; clear he; subst he2; have ha := grown_below (b := b) (one_box wx (.cells #[.int .i64 kx, .int .u64 S.1.toNat, .int .u64 S.2.1.toNat, .int .u64 S.2.2.1.toNat, .int .u64 S.2.2.2.toNat, .slice A ks.length c, .int .i64 lo, .int .i64 hi, .int .i64 n] 27)); have HSZ : Hid (w.heap.size + 1 ≤ wx.heap.size) := Lib.hid (by have := hg1.size; simpa [World.setCell] using this); have hr2 := hr1.low (one_box wx (.cells #[.int .i64 kx, .int .u64 S.1.toNat, .int .u64 S.2.1.toNat, .int .u64 S.2.2.1.toNat, .int .u64 S.2.2.2.toNat, .slice A ks.length c, .int .i64 lo, .int .i64 hi, .int .i64 n] 27)); have hg2 := grown_trans (grown_trans HGC.out hg1) ha; have hb2 := (HBC.out.grown hg1 (Nat.ne_of_gt hb.out)).grown ha (Nat.ne_of_gt hb.out); have hp2 := Box9.new wx (.int .i64 kx) (.int .u64 S.1.toNat) (.int .u64 S.2.1.toNat) (.int .u64 S.2.2.1.toNat) (.int .u64 S.2.2.2.toNat) (.slice A ks.length c) (.int .i64 lo) (.int .i64 hi) (.int .i64 n); have hk2 := (hkid.grownF ha (.inl HR0.out.lt0) (Nat.le_refl _)); clear HR HG HB; have HR := Lib.hid hr2; have HG := Lib.hid hg2; have HB := Lib.hid hb2; have HP := Lib.hid hp2; have HK := Lib.hid hk2; obtain ⟨c0, c1, c2, c3, f1, f2, f3⟩ := hr2; obtain ⟨p0, p1, p2, p3, p4, p5, p6, p7, p8, _⟩ := hp2; obtain ⟨d0, d1, d2, d3, d4, d5, d6, d7, d8, _⟩ := HB.out; obtain ⟨e0, e1, e2, e3, e4, e5, e6, e7, e8⟩ := Box9.freed HB.out; clear hr1 hg1 ha hg2 hb2 hk2 hkid))
              | (go_at_call 39; (with_reducible refine (Hid.out KS _ (Hid.out HR)).mono ?_); go_must (rintro _ wv ⟨he, hr1, hg1⟩; subst he; have hg2 := grown_trans (Hid.out HG) hg1; have hb2 := Box9.grown (Hid.out HB) hg1 (Nat.ne_of_gt (Hid.out hb)); have hwz := hg1.size; have HWZ : Hid (wx.heap.size + 1 ≤ wv.heap.size) := Lib.hid (by simpa using hwz); clear hwz; have hp2 := Box9.grown HP.out hg1 (Nat.ne_of_gt (Nat.lt_of_lt_of_le hb.out (Nat.le_trans (Nat.le_succ _) HSZ.out))); have hk2 := HK.out.grownF hg1 (.inl HR0.out.lt0) (by simp); clear HP; have HP := Lib.hid hp2; clear HK; have HK := Lib.hid hk2; have hpf := Box9.other hp2 (a := ⟨b, 1, none⟩) (Nat.ne_of_lt (Nat.lt_of_lt_of_le hb.out (Nat.le_trans (Nat.le_succ _) HSZ.out))) (.int .i64 ((q : Int) + 1)); obtain ⟨P0, P1, P2, P3, P4, P5, P6, P7, P8, _⟩ := hpf; have hbf := (Box9.other hb2 (a := ⟨b, 1, none⟩) (Nat.ne_of_lt hb.out) (.int .i64 ((q : Int) + 1))).low (one_box _ (.cells #[.int .i64 kx, .int .u64 S.1.toNat, .int .u64 S.2.1.toNat, .int .u64 S.2.2.1.toNat, .int .u64 S.2.2.2.toNat, .slice A ks.length c, .int .i64 lo, .int .i64 hi, .int .i64 n] 27)); obtain ⟨E0, E1, E2, E3, E4, E5, E6, E7, E8⟩ := Box9.freed hbf; obtain ⟨D0, D1, D2, D3, D4, D5, D6, D7, D8, _⟩ := hbf; obtain ⟨p0, p1, p2, p3, p4, p5, p6, p7, p8, _⟩ := hp2; clear hk2; clear HR; have HR := Lib.hid hr1; clear HG; have HG := Lib.hid hg2; clear HB; have HB := Lib.hid hb2; obtain ⟨c0, c1, c2, c3, f1, f2, f3⟩ := hr1; obtain ⟨d0, d1, d2, d3, d4, d5, d6, d7, d8, _⟩ := HB.out; obtain ⟨e0, e1, e2, e3, e4, e5, e6, e7, e8⟩ := Box9.freed HB.out; clear hg1 hg2 hb2)))
            obtain ⟨W3, hW3, hbx, hr, hgw⟩ := endT (.int .i64 7) (.int .u64 0) (.int .u64 0) (.int .u64 0) (.int .u64 0) (.slice (some ⟨wv.heap.size, 0, none⟩) 1 1) (.int .i64 0) (.int .i64 0) (.int .i64 0) hb.out ((Rdr.incz HR.out ((q : Int) + 1) rfl).low (one_box _ (.cells #[.int .i64 kx, .int .u64 S.1.toNat, .int .u64 S.2.1.toNat, .int .u64 S.2.2.1.toNat, .int .u64 S.2.2.2.toNat, .slice A ks.length c, .int .i64 lo, .int .i64 hi, .int .i64 n] 27))) (grown_trans (grown_trans HG.out (grown_set b 1 _ (.int .i64 ((q : Int) + 1)))) (grown_below (one_box _ (.cells #[.int .i64 kx, .int .u64 S.1.toNat, .int .u64 S.2.1.toNat, .int .u64 S.2.2.1.toNat, .int .u64 S.2.2.2.toNat, .slice A ks.length c, .int .i64 lo, .int .i64 hi, .int .i64 n] 27)))) ((Box9.other HB.out (a := ⟨b, 1, none⟩) (Nat.ne_of_lt hb.out) (.int .i64 ((q : Int) + 1))).low (one_box _ (.cells #[.int .i64 kx, .int .u64 S.1.toNat, .int .u64 S.2.1.toNat, .int .u64 S.2.2.1.toNat, .int .u64 S.2.2.2.toNat, .slice A ks.length c, .int .i64 lo, .int .i64 hi, .int .i64 n] 27)))
            have KK : Kids (Fr w.heap.size W3.heap.size) W3 (some ⟨wv.heap.size, 0, none⟩) (.mk 7 none4 [.mk kx S ks lo hi n] 0 0 0) := by
              have hs2 := congrArg (fun W => W.heap.size) hW3
              simp only [size_put9] at hs2
              have hbw := hb.out
              have hz := HSZ.out
              have hv := HWZ.out
              have hs3 : W3.heap.size = wv.heap.size + 1 := by rw [hs2]; simp [World.setCell]
              rw [hs3, hW3]
              have hn9 := Box9.new (wv.setCell ⟨b, 1, none⟩ (.int .i64 ((q : Int) + 1))) (.int .i64 kx) (.int .u64 S.1.toNat) (.int .u64 S.2.1.toNat) (.int .u64 S.2.2.1.toNat) (.int .u64 S.2.2.2.toNat) (.slice A ks.length c) (.int .i64 lo) (.int .i64 hi) (.int .i64 n)
              rw [size_set] at hn9
              refine kids_one (hn9.past (by omega) _ _ _ _ _ _ _ _ _) ?_ ⟨by omega, by omega⟩ 7 none4 0 0 0
              have h1 := HK.out.setF (a := ⟨b, 1, none⟩) (.inl HR0.out.lt0) (.int .i64 ((q : Int) + 1))
              have h2 := h1.grownF (b := b) (grown_below (one_box _ (.cells #[.int .i64 kx, .int .u64 S.1.toNat, .int .u64 S.2.1.toNat, .int .u64 S.2.2.1.toNat, .int .u64 S.2.2.2.toNat, .slice A ks.length c, .int .i64 lo, .int .i64 hi, .int .i64 n] 27))) (.inl HR0.out.lt0) (by rw [size_set]; omega)
              exact (h2.put9 (.inl (World.block_lt_of_cell? _ _ HBC.out.c0)) _ _ _ _ _ _ _ _ _).wide HGC.out.size (by omega)
            unfold put9 at hW3
            rw [← hW3]
            obtain ⟨l0, l1, l2, l3, l4, l5, l6, l7, l8, _⟩ := hbx
            exact bodyPost_ret (v := .agg #[.int .i64 7, .int .u64 0, .int .u64 0, .int .u64 0, .int .u64 0, .slice (some ⟨wv.heap.size, 0, none⟩) 1 1, .int .i64 0, .int .i64 0, .int .i64 0]) (by simp [results, Tryd.results58, go_sem, l0, l1, l2, l3, l4, l5, l6, l7, l8]) rfl (postd_ok HX.out (some ⟨wv.heap.size, 0, none⟩) 1 (by rfl) KK HQ.out hr hgw)
          · rw [if_neg h41] at hR
            have HX := Lib.hid hR
            have KS := Lib.hid (is_t 41 41 rfl b s q g' 0 (by omega) false (is_no h41))
            have KF := Lib.hid (fail_new 1 1 rfl b s q g')
            clear hR hget hc hy lit hstp hsz hgg sa1 sa2 hk1 hg1 hexd hex hsane hnum hq h41
            go_enter Tryd.func58, Tryd.ntmps58
            go_wp2
            go_quiet (fail)
            have hrq := HR.out.drews nq
            have hgq := grown_trans HG.out (grown_drews b nq _)
            have hbq := HB.out.low (below_drews _ nq)
            clear HR HG HB
            have HR := Lib.hid hrq
            have HG := Lib.hid hgq
            have HB := Lib.hid hbq
            clear hrq hgq hbq
            obtain ⟨c0, c1, c2, c3, f1, f2, f3⟩ := HR.out
            obtain ⟨d0, d1, d2, d3, d4, d5, d6, d7, d8, _⟩ := HB.out; obtain ⟨e0, e1, e2, e3, e4, e5, e6, e7, e8⟩ := Box9.freed HB.out
            have HR0 := Lib.hid HR.out
            have HGC := Lib.hid (grown_trans (grown_trans HG.out (grown_set b 1 _ (.int .i64 ((k : Int) + 1)))) (grown_set b 2 _ (.int .i64 ((g : Int) + 1))))
            have HBC := Lib.hid ((HB.out.other (a := ⟨b, 1, none⟩) (Nat.ne_of_lt hb.out) (.int .i64 ((k : Int) + 1))).other (a := ⟨b, 2, none⟩) (Nat.ne_of_lt hb.out) (.int .i64 ((g : Int) + 1)))
            go_wp2_with (first
              | (go_at_call 24; refine (KG.out _ (by have e1 := HK1.out; have e2 := HG1.out; subst e1 e2; exact (HR0.out.at_ (k + 1)).groups_ (g + 1))).mono ?_; go_must (rintro _ wx ⟨⟨A, c, he, hkid⟩, hr1, hg1⟩; have he2 : _ = Ending.returned (.agg #[.int .i64 kx, .int .u64 S.1.toNat, .int .u64 S.2.1.toNat, .int .u64 S.2.2.1.toNat, .int .u64 S.2.2.2.toNat, .slice A ks.length c, .int .i64 lo, .int .i64 hi, .int .i64 n]) := he; clear he; subst he2; have ha := grown_below (b := b) (one_box wx (.cells #[.int .i64 kx, .int .u64 S.1.toNat, .int .u64 S.2.1.toNat, .int .u64 S.2.2.1.toNat, .int .u64 S.2.2.2.toNat, .slice A ks.length c, .int .i64 lo, .int .i64 hi, .int .i64 n] 27)); have HSZ : Hid (w.heap.size + 1 ≤ wx.heap.size) := Lib.hid (by have := hg1.size; simpa [World.setCell] using this); have hr2 := hr1.low (one_box wx (.cells #[.int .i64 kx, .int .u64 S.1.toNat, .int .u64 S.2.1.toNat, .int .u64 S.2.2.1.toNat, .int .u64 S.2.2.2.toNat, .slice A ks.length c, .int .i64 lo, .int .i64 hi, .int .i64 n] 27)); have hg2 := grown_trans (grown_trans HGC.out hg1) ha; have hb2 := (HBC.out.grown hg1 (Nat.ne_of_gt hb.out)).grown ha (Nat.ne_of_gt hb.out); have hp2 := Box9.new wx (.int .i64 kx) (.int .u64 S.1.toNat) (.int .u64 S.2.1.toNat) (.int .u64 S.2.2.1.toNat) (.int .u64 S.2.2.2.toNat) (.slice A ks.length c) (.int .i64 lo) (.int .i64 hi) (.int .i64 n); have hk2 := (hkid.grownF ha (.inl HR0.out.lt0) (Nat.le_refl _)); clear HR HG HB; have HR := Lib.hid hr2; have HG := Lib.hid hg2; have HB := Lib.hid hb2; have HP := Lib.hid hp2; have HK := Lib.hid hk2; obtain ⟨c0, c1, c2, c3, f1, f2, f3⟩ := hr2; obtain ⟨p0, p1, p2, p3, p4, p5, p6, p7, p8, _⟩ := hp2; obtain ⟨d0, d1, d2, d3, d4, d5, d6, d7, d8, _⟩ := HB.out; obtain ⟨e0, e1, e2, e3, e4, e5, e6, e7, e8⟩ := Box9.freed HB.out; clear hr1 hg1 ha hg2 hb2 hk2 hkid))
              | (go_at_call 39; (with_reducible refine (Hid.out KS _ (Hid.out HR)).mono ?_); go_must (rintro _ wv ⟨he, hr1, hg1⟩; subst he; have hg2 := grown_trans (Hid.out HG) hg1; have hb2 := Box9.grown (Hid.out HB) hg1 (Nat.ne_of_gt (Hid.out hb)); clear HR; have HR := Lib.hid hr1; clear HG; have HG := Lib.hid hg2; clear HB; have HB := Lib.hid hb2; obtain ⟨c0, c1, c2, c3, f1, f2, f3⟩ := hr1; obtain ⟨d0, d1, d2, d3, d4, d5, d6, d7, d8, _⟩ := HB.out; obtain ⟨e0, e1, e2, e3, e4, e5, e6, e7, e8⟩ := Box9.freed HB.out; clear hg1 hg2 hb2))
              | (go_at_call 25; (with_reducible refine (Hid.out KF _ (Hid.out HR)).mono ?_); go_must (rintro _ wv ⟨he, hr1, hg1⟩; subst he; have hg2 := grown_trans (Hid.out HG) hg1; have hb2 := Box9.grown (Hid.out HB) hg1 (Nat.ne_of_gt (Hid.out hb)); clear HR; have HR := Lib.hid hr1; clear HG; have HG := Lib.hid hg2; clear HB; have HB := Lib.hid hb2; obtain ⟨c0, c1, c2, c3, f1, f2, f3⟩ := hr1; obtain ⟨d0, d1, d2, d3, d4, d5, d6, d7, d8, _⟩ := HB.out; obtain ⟨e0, e1, e2, e3, e4, e5, e6, e7, e8⟩ := Box9.freed HB.out; clear hg1 hg2 hb2)))
            obtain ⟨W3, hW3, hbx, hr, hgw⟩ := endT (.int .i64 0) (.int .u64 0) (.int .u64 0) (.int .u64 0) (.int .u64 0) (.slice none 0 0) (.int .i64 0) (.int .i64 0) (.int .i64 0) hb.out HR.out HG.out HB.out
            unfold put9 at hW3
            rw [← hW3]
            obtain ⟨l0, l1, l2, l3, l4, l5, l6, l7, l8, _⟩ := hbx
            exact bodyPost_ret (v := .agg #[.int .i64 0, .int .u64 0, .int .u64 0, .int .u64 0, .int .u64 0, .slice none 0 0, .int .i64 0, .int .i64 0, .int .i64 0]) (by simp [results, Tryd.results58, go_sem, l0, l1, l2, l3, l4, l5, l6, l7, l8]) rfl (postd_bad HX.out (.mk 0 none4 [] 0 0 0) none 0 (by rfl) (Kids.leaf _ _ _ _ _ _ _ _) (by rfl) (by exact .inl rfl) hr hgw)
  by_cases g91 : y = 91
  · have f := g91
    have hc := lit 91 f
    rw [hc] at hget
    rw [atom_is g hget, if_neg (by decide), if_neg (by decide), if_neg (by decide), if_neg (by decide), if_pos rfl] at hR
    have hcb := cls_bd (s := s.data.toList) (k := k + 1) (by omega)
    rcases hcl : cls s.data.toList (k + 1) with q | ⟨S, q⟩
    · rw [hcl] at hR hcb
      have HX := Lib.hid hR
      have KC := Lib.hid (cl_bad b g hcl (by omega) (by omega))
      subst f
      clear hR hget hc hy lit hstp hsz hcl hcb
      go_enter Tryd.func58, Tryd.ntmps58
      go_wp2
      go_quiet (fail)
      have hrq := HR.out.drews nq
      have hgq := grown_trans HG.out (grown_drews b nq _)
      have hbq := HB.out.low (below_drews _ nq)
      clear HR HG HB
      have HR := Lib.hid hrq
      have HG := Lib.hid hgq
      have HB := Lib.hid hbq
      clear hrq hgq hbq
      obtain ⟨c0, c1, c2, c3, f1, f2, f3⟩ := HR.out
      obtain ⟨d0, d1, d2, d3, d4, d5, d6, d7, d8, _⟩ := HB.out; obtain ⟨e0, e1, e2, e3, e4, e5, e6, e7, e8⟩ := Box9.freed HB.out
      go_wp2_with (go_at_call 67; (with_reducible refine (Hid.out KC _ (Rdr.incz (Hid.out HR) _ ?_)).mono ?_); (omega); go_must (rintro _ wv ⟨he, hr1, hg1⟩; subst he; have hg2 := grown_trans (grown_trans (Hid.out HG) (grown_set b 1 _ _)) hg1; have hb2 := Box9.grown (Box9.other (Hid.out HB) (Nat.ne_of_lt (Hid.out hb)) _) hg1 (Nat.ne_of_gt (Hid.out hb)); clear HR; have HR := Lib.hid hr1; clear HG; have HG := Lib.hid hg2; clear HB; have HB := Lib.hid hb2; obtain ⟨c0, c1, c2, c3, f1, f2, f3⟩ := hr1; obtain ⟨d0, d1, d2, d3, d4, d5, d6, d7, d8, _⟩ := HB.out; obtain ⟨e0, e1, e2, e3, e4, e5, e6, e7, e8⟩ := Box9.freed HB.out; clear hg1 hg2 hb2))
      obtain ⟨W3, hW3, hbx, hr, hgw⟩ := endT (.int .i64 0) (.int .u64 0) (.int .u64 0) (.int .u64 0) (.int .u64 0) (.slice none 0 0) (.int .i64 0) (.int .i64 0) (.int .i64 0) hb.out HR.out HG.out HB.out
      unfold put9 at hW3
      rw [← hW3]
      obtain ⟨l0, l1, l2, l3, l4, l5, l6, l7, l8, _⟩ := hbx
      exact bodyPost_ret (v := .agg #[.int .i64 0, .int .u64 0, .int .u64 0, .int .u64 0, .int .u64 0, .slice none 0 0, .int .i64 0, .int .i64 0, .int .i64 0]) (by simp [results, Tryd.results58, go_sem, l0, l1, l2, l3, l4, l5, l6, l7, l8]) rfl (postd_bad HX.out (.mk 0 none4 [] 0 0 0) none 0 (by rfl) (Kids.leaf _ _ _ _ _ _ _ _) (by rfl) (by exact .inl rfl) hr hgw)
    · rw [hcl] at hR hcb
      dsimp only at hR hcb
      have HX := Lib.hid hR
      have HQ : Hid (g ≤ q) := Lib.hid (by omega)
      have KC := Lib.hid (cl_ok b g hcl (by omega) (by omega))
      subst f
      clear hR hget hc hy lit hstp hsz hcl hcb
      go_enter Tryd.func58, Tryd.ntmps58
      go_wp2
      go_quiet (fail)
      have hrq := HR.out.drews nq
      have hgq := grown_trans HG.out (grown_drews b nq _)
      have hbq := HB.out.low (below_drews _ nq)
      clear HR HG HB
      have HR := Lib.hid hrq
      have HG := Lib.hid hgq
      have HB := Lib.hid hbq
      clear hrq hgq hbq
      obtain ⟨c0, c1, c2, c3, f1, f2, f3⟩ := HR.out
      obtain ⟨d0, d1, d2, d3, d4, d5, d6, d7, d8, _⟩ := HB.out; obtain ⟨e0, e1, e2, e3, e4, e5, e6, e7, e8⟩ := Box9.freed HB.out
      go_wp2_with (go_at_call 67; (with_reducible refine (Hid.out KC _ (Rdr.incz (Hid.out HR) _ ?_)).mono ?_); (omega); go_must (rintro _ wv ⟨he, hr1, hg1⟩; subst he; have hg2 := grown_trans (grown_trans (Hid.out HG) (grown_set b 1 _ _)) hg1; have hb2 := Box9.grown (Box9.other (Hid.out HB) (Nat.ne_of_lt (Hid.out hb)) _) hg1 (Nat.ne_of_gt (Hid.out hb)); clear HR; have HR := Lib.hid hr1; clear HG; have HG := Lib.hid hg2; clear HB; have HB := Lib.hid hb2; obtain ⟨c0, c1, c2, c3, f1, f2, f3⟩ := hr1; obtain ⟨d0, d1, d2, d3, d4, d5, d6, d7, d8, _⟩ := HB.out; obtain ⟨e0, e1, e2, e3, e4, e5, e6, e7, e8⟩ := Box9.freed HB.out; clear hg1 hg2 hb2))
      obtain ⟨W3, hW3, hbx, hr, hgw⟩ := endT (.int .i64 1) (.int .u64 S.1.toNat) (.int .u64 S.2.1.toNat) (.int .u64 S.2.2.1.toNat) (.int .u64 S.2.2.2.toNat) (.slice none 0 0) (.int .i64 0) (.int .i64 0) (.int .i64 0) hb.out HR.out HG.out HB.out
      unfold put9 at hW3
      rw [← hW3]
      obtain ⟨l0, l1, l2, l3, l4, l5, l6, l7, l8, _⟩ := hbx
      exact bodyPost_ret (v := .agg #[.int .i64 1, .int .u64 S.1.toNat, .int .u64 S.2.1.toNat, .int .u64 S.2.2.1.toNat, .int .u64 S.2.2.2.toNat, .slice none 0 0, .int .i64 0, .int .i64 0, .int .i64 0]) (by simp [results, Tryd.results58, go_sem, l0, l1, l2, l3, l4, l5, l6, l7, l8]) rfl (postd_ok HX.out none 0 (by rfl) (Kids.leaf _ _ _ _ _ _ _ _) HQ.out hr hgw)
  by_cases g46 : y = 46
  · have f := g46
    have hc := lit 46 f
    rw [hc] at hget
    rw [atom_is g hget, if_neg (by decide), if_neg (by decide), if_pos rfl] at hR
    obtain ⟨S, hS⟩ : ∃ S, S = compl none4 := ⟨_, rfl⟩
    have KO := Lib.hid all_t
    rw [← hS] at KO hR
    unfold setV4 at KO
    have HX := Lib.hid hR
    subst f
    clear hR hget hc hy lit hstp hsz hS
    go_enter Tryd.func58, Tryd.ntmps58
    go_wp2
    go_quiet (fail)
    have hrq := HR.out.drews nq
    have hgq := grown_trans HG.out (grown_drews b nq _)
    have hbq := HB.out.low (below_drews _ nq)
    clear HR HG HB
    have HR := Lib.hid hrq
    have HG := Lib.hid hgq
    have HB := Lib.hid hbq
    clear hrq hgq hbq
    obtain ⟨c0, c1, c2, c3, f1, f2, f3⟩ := HR.out
    obtain ⟨d0, d1, d2, d3, d4, d5, d6, d7, d8, _⟩ := HB.out; obtain ⟨e0, e1, e2, e3, e4, e5, e6, e7, e8⟩ := Box9.freed HB.out
    go_wp2_with (go_at_call 68; (with_reducible refine (KO.out _).mono ?_); go_must (rintro _ wv ⟨he, hbl⟩; subst he; have hr1 := Rdr.low (Rdr.incz HR.out ((k : Int) + 1) rfl) hbl; have hb2 := Box9.low (Box9.other HB.out (a := ⟨b, 1, none⟩) (Nat.ne_of_lt hb.out) (.int .i64 ((k : Int) + 1))) hbl; have hg2 := grown_trans (grown_trans HG.out (grown_set b 1 _ (.int .i64 ((k : Int) + 1)))) (grown_below hbl); clear HR; have HR := Lib.hid hr1; clear HG; have HG := Lib.hid hg2; clear HB; have HB := Lib.hid hb2; obtain ⟨c0, c1, c2, c3, f1, f2, f3⟩ := hr1; obtain ⟨d0, d1, d2, d3, d4, d5, d6, d7, d8, _⟩ := HB.out; obtain ⟨e0, e1, e2, e3, e4, e5, e6, e7, e8⟩ := Box9.freed HB.out; clear hbl hg2 hb2))
    obtain ⟨W3, hW3, hbx, hr, hgw⟩ := endT (.int .i64 1) (.int .u64 S.1.toNat) (.int .u64 S.2.1.toNat) (.int .u64 S.2.2.1.toNat) (.int .u64 S.2.2.2.toNat) (.slice none 0 0) (.int .i64 0) (.int .i64 0) (.int .i64 0) hb.out HR.out HG.out HB.out
    unfold put9 at hW3
    rw [← hW3]
    obtain ⟨l0, l1, l2, l3, l4, l5, l6, l7, l8, _⟩ := hbx
    exact bodyPost_ret (v := .agg #[.int .i64 1, .int .u64 S.1.toNat, .int .u64 S.2.1.toNat, .int .u64 S.2.2.1.toNat, .int .u64 S.2.2.2.toNat, .slice none 0 0, .int .i64 0, .int .i64 0, .int .i64 0]) (by simp [results, Tryd.results58, go_sem, l0, l1, l2, l3, l4, l5, l6, l7, l8]) rfl (postd_ok HX.out none 0 (by rfl) (Kids.leaf _ _ _ _ _ _ _ _) (by omega) hr hgw)
  by_cases g94 : y = 94
  · have f := g94
    have hc := lit 94 f
    rw [hc] at hget
    rw [atom_is g hget, if_pos rfl] at hR
    have HX := Lib.hid hR
    subst f
    clear hR hget hc hy lit hstp hsz
    go_enter Tryd.func58, Tryd.ntmps58
    go_wp2
    go_quiet (fail)
    have hrq := HR.out.drews nq
    have hgq := grown_trans HG.out (grown_drews b nq _)
    have hbq := HB.out.low (below_drews _ nq)
    clear HR HG HB
    have HR := Lib.hid hrq
    have HG := Lib.hid hgq
    have HB := Lib.hid hbq
    clear hrq hgq hbq
    obtain ⟨c0, c1, c2, c3, f1, f2, f3⟩ := HR.out
    obtain ⟨d0, d1, d2, d3, d4, d5, d6, d7, d8, _⟩ := HB.out; obtain ⟨e0, e1, e2, e3, e4, e5, e6, e7, e8⟩ := Box9.freed HB.out
    have hbs := (Box9.other HB.out (a := ⟨b, 1, none⟩) (Nat.ne_of_lt hb.out) (.int .i64 ((k : Int) + 1)))
    obtain ⟨E0, E1, E2, E3, E4, E5, E6, E7, E8⟩ := Box9.freed hbs; obtain ⟨D0, D1, D2, D3, D4, D5, D6, D7, D8, _⟩ := hbs
    go_wp2
    obtain ⟨W3, hW3, hbx, hr, hgw⟩ := endT (.int .i64 2) (.int .u64 0) (.int .u64 0) (.int .u64 0) (.int .u64 0) (.slice none 0 0) (.int .i64 0) (.int .i64 0) (.int .i64 0) hb.out (Rdr.incz HR.out ((k : Int) + 1) rfl) (grown_trans HG.out (grown_set b 1 _ (.int .i64 ((k : Int) + 1)))) (Box9.other HB.out (a := ⟨b, 1, none⟩) (Nat.ne_of_lt hb.out) (.int .i64 ((k : Int) + 1)))
    unfold put9 at hW3
    rw [← hW3]
    obtain ⟨l0, l1, l2, l3, l4, l5, l6, l7, l8, _⟩ := hbx
    exact bodyPost_ret (v := .agg #[.int .i64 2, .int .u64 0, .int .u64 0, .int .u64 0, .int .u64 0, .slice none 0 0, .int .i64 0, .int .i64 0, .int .i64 0]) (by simp [results, Tryd.results58, go_sem, l0, l1, l2, l3, l4, l5, l6, l7, l8]) rfl (postd_ok HX.out none 0 (by rfl) (Kids.leaf _ _ _ _ _ _ _ _) (by omega) hr hgw)
  by_cases g36 : y = 36
  · have f := g36
    have hc := lit 36 f
    rw [hc] at hget
    rw [atom_is g hget, if_neg (by decide), if_pos rfl] at hR
    have HX := Lib.hid hR
    subst f
    clear hR hget hc hy lit hstp hsz
    go_enter Tryd.func58, Tryd.ntmps58
    go_wp2
    go_quiet (fail)
    have hrq := HR.out.drews nq
    have hgq := grown_trans HG.out (grown_drews b nq _)
    have hbq := HB.out.low (below_drews _ nq)
    clear HR HG HB
    have HR := Lib.hid hrq
    have HG := Lib.hid hgq
    have HB := Lib.hid hbq
    clear hrq hgq hbq
    obtain ⟨c0, c1, c2, c3, f1, f2, f3⟩ := HR.out
    obtain ⟨d0, d1, d2, d3, d4, d5, d6, d7, d8, _⟩ := HB.out; obtain ⟨e0, e1, e2, e3, e4, e5, e6, e7, e8⟩ := Box9.freed HB.out
    have hbs := (Box9.other HB.out (a := ⟨b, 1, none⟩) (Nat.ne_of_lt hb.out) (.int .i64 ((k : Int) + 1)))
    obtain ⟨E0, E1, E2, E3, E4, E5, E6, E7, E8⟩ := Box9.freed hbs; obtain ⟨D0, D1, D2, D3, D4, D5, D6, D7, D8, _⟩ := hbs
    go_wp2
    obtain ⟨W3, hW3, hbx, hr, hgw⟩ := endT (.int .i64 3) (.int .u64 0) (.int .u64 0) (.int .u64 0) (.int .u64 0) (.slice none 0 0) (.int .i64 0) (.int .i64 0) (.int .i64 0) hb.out (Rdr.incz HR.out ((k : Int) + 1) rfl) (grown_trans HG.out (grown_set b 1 _ (.int .i64 ((k : Int) + 1)))) (Box9.other HB.out (a := ⟨b, 1, none⟩) (Nat.ne_of_lt hb.out) (.int .i64 ((k : Int) + 1)))
    unfold put9 at hW3
    rw [← hW3]
    obtain ⟨l0, l1, l2, l3, l4, l5, l6, l7, l8, _⟩ := hbx
    exact bodyPost_ret (v := .agg #[.int .i64 3, .int .u64 0, .int .u64 0, .int .u64 0, .int .u64 0, .slice none 0 0, .int .i64 0, .int .i64 0, .int .i64 0]) (by simp [results, Tryd.results58, go_sem, l0, l1, l2, l3, l4, l5, l6, l7, l8]) rfl (postd_ok HX.out none 0 (by rfl) (Kids.leaf _ _ _ _ _ _ _ _) (by omega) hr hgw)
  by_cases g92 : y = 92
  · have f := g92
    have hc := lit 92 f
    rw [hc] at hget
    rw [atom_is g hget, if_neg (by decide), if_neg (by decide), if_neg (by decide), if_neg (by decide), if_neg (by decide), if_pos rfl] at hR
    by_cases k1 : k + 1 < s.size
    · have hget1 := get_at s (k + 1) k1
      rw [hget1] at hR
      dsimp only at hR
      obtain ⟨T, hT⟩ : ∃ T, T = ins none4 s[k + 1].toNat := ⟨_, rfl⟩
      obtain ⟨z, hz⟩ : ∃ z : Int, z = (s[k + 1].toNat : Int) := ⟨_, rfl⟩
      have hzz : (s[k + 1].toNat : Int) = z := hz.symm
      have KO := Lib.hid (fun w => one_t s[k + 1] z hz w)
      rw [← hT] at KO hR
      unfold setV4 at KO
      have HX := Lib.hid hR
      have b1 : decide ((s.size : Int) ≤ (k : Int) + 1) = false := by simp; omega
      subst f
      clear hR hget hc hy lit hstp hsz hT hz hget1
      go_enter Tryd.func58, Tryd.ntmps58
      go_wp2
      go_quiet (fail)
      have hrq := HR.out.drews nq
      have hgq := grown_trans HG.out (grown_drews b nq _)
      have hbq := HB.out.low (below_drews _ nq)
      clear HR HG HB
      have HR := Lib.hid hrq
      have HG := Lib.hid hgq
      have HB := Lib.hid hbq
      clear hrq hgq hbq
      obtain ⟨c0, c1, c2, c3, f1, f2, f3⟩ := HR.out
      obtain ⟨d0, d1, d2, d3, d4, d5, d6, d7, d8, _⟩ := HB.out; obtain ⟨e0, e1, e2, e3, e4, e5, e6, e7, e8⟩ := Box9.freed HB.out
      go_wp2
      have hrs := (Rdr.incz HR.out ((k : Int) + 1) rfl)
      have hgs := (grown_trans HG.out (grown_set b 1 _ (.int .i64 ((k : Int) + 1))))
      have hbs := (Box9.other HB.out (a := ⟨b, 1, none⟩) (Nat.ne_of_lt hb.out) (.int .i64 ((k : Int) + 1)))
      clear HR HG HB
      have HR := Lib.hid hrs
      have HG := Lib.hid hgs
      have HB := Lib.hid hbs
      clear hrs hgs hbs
      obtain ⟨c0, c1, c2, c3, f1, f2, f3⟩ := HR.out
      obtain ⟨d0, d1, d2, d3, d4, d5, d6, d7, d8, _⟩ := HB.out; obtain ⟨e0, e1, e2, e3, e4, e5, e6, e7, e8⟩ := Box9.freed HB.out
      go_quiet (fail)
      have hrq := HR.out.drews nq
      have hgq := grown_trans HG.out (grown_drews b nq _)
      have hbq := HB.out.low (below_drews _ nq)
      clear HR HG HB
      have HR := Lib.hid hrq
      have HG := Lib.hid hgq
      have HB := Lib.hid hbq
      clear hrq hgq hbq
      obtain ⟨c0, c1, c2, c3, f1, f2, f3⟩ := HR.out
      obtain ⟨d0, d1, d2, d3, d4, d5, d6, d7, d8, _⟩ := HB.out; obtain ⟨e0, e1, e2, e3, e4, e5, e6, e7, e8⟩ := Box9.freed HB.out
      go_wp2
      go_quiet (fail)
      have hrq := HR.out.drews nq
      have hgq := grown_trans HG.out (grown_drews b nq _)
      have hbq := HB.out.low (below_drews _ nq)
      simp only [World.drewN_drewN] at hrq hgq hbq
      clear HR HG HB
      have HR := Lib.hid hrq
      have HG := Lib.hid hgq
      have HB := Lib.hid hbq
      clear hrq hgq hbq
      obtain ⟨c0, c1, c2, c3, f1, f2, f3⟩ := HR.out
      obtain ⟨d0, d1, d2, d3, d4, d5, d6, d7, d8, _⟩ := HB.out; obtain ⟨e0, e1, e2, e3, e4, e5, e6, e7, e8⟩ := Box9.freed HB.out
      go_wp2_with (go_at_call 69; (with_reducible refine (KO.out _).mono ?_); go_must (rintro _ wv ⟨he, hbl⟩; subst he; have hr1 := Rdr.low (Rdr.incz HR.out ((k : Int) + 1 + 1) (by omega)) hbl; have hb2 := Box9.low (Box9.other HB.out (a := ⟨b, 1, none⟩) (Nat.ne_of_lt hb.out) (.int .i64 ((k : Int) + 1 + 1))) hbl; have hg2 := grown_trans (grown_trans HG.out (grown_set b 1 _ (.int .i64 ((k : Int) + 1 + 1)))) (grown_below hbl); clear HR; have HR := Lib.hid hr1; clear HG; have HG := Lib.hid hg2; clear HB; have HB := Lib.hid hb2; obtain ⟨c0, c1, c2, c3, f1, f2, f3⟩ := hr1; obtain ⟨d0, d1, d2, d3, d4, d5, d6, d7, d8, _⟩ := HB.out; obtain ⟨e0, e1, e2, e3, e4, e5, e6, e7, e8⟩ := Box9.freed HB.out; clear hbl hg2 hb2))
      obtain ⟨W3, hW3, hbx, hr, hgw⟩ := endT (.int .i64 1) (.int .u64 T.1.toNat) (.int .u64 T.2.1.toNat) (.int .u64 T.2.2.1.toNat) (.int .u64 T.2.2.2.toNat) (.slice none 0 0) (.int .i64 0) (.int .i64 0) (.int .i64 0) hb.out HR.out HG.out HB.out
      unfold put9 at hW3
      rw [← hW3]
      obtain ⟨l0, l1, l2, l3, l4, l5, l6, l7, l8, _⟩ := hbx
      exact bodyPost_ret (v := .agg #[.int .i64 1, .int .u64 T.1.toNat, .int .u64 T.2.1.toNat, .int .u64 T.2.2.1.toNat, .int .u64 T.2.2.2.toNat, .slice none 0 0, .int .i64 0, .int .i64 0, .int .i64 0]) (by simp [results, Tryd.results58, go_sem, l0, l1, l2, l3, l4, l5, l6, l7, l8]) rfl (postd_ok HX.out none 0 (by rfl) (Kids.leaf _ _ _ _ _ _ _ _) (by omega) hr hgw)
    · rw [get_end s (k + 1) k1] at hR
      dsimp only at hR
      have HX := Lib.hid hR
      have KF := Lib.hid (fail_new 1 1 rfl b s (k + 1) g)
      have b1 : decide ((s.size : Int) ≤ (k : Int) + 1) = true := by simp; omega
      subst f
      clear hR hget hc hy lit hstp hsz
      go_enter Tryd.func58, Tryd.ntmps58
      go_wp2
      go_quiet (fail)
      have hrq := HR.out.drews nq
      have hgq := grown_trans HG.out (grown_drews b nq _)
      have hbq := HB.out.low (below_drews _ nq)
      clear HR HG HB
      have HR := Lib.hid hrq
      have HG := Lib.hid hgq
      have HB := Lib.hid hbq
      clear hrq hgq hbq
      obtain ⟨c0, c1, c2, c3, f1, f2, f3⟩ := HR.out
      obtain ⟨d0, d1, d2, d3, d4, d5, d6, d7, d8, _⟩ := HB.out; obtain ⟨e0, e1, e2, e3, e4, e5, e6, e7, e8⟩ := Box9.freed HB.out
      go_wp2
      have hrs := (Rdr.incz HR.out ((k : Int) + 1) rfl)
      have hgs := (grown_trans HG.out (grown_set b 1 _ (.int .i64 ((k : Int) + 1))))
      have hbs := (Box9.other HB.out (a := ⟨b, 1, none⟩) (Nat.ne_of_lt hb.out) (.int .i64 ((k : Int) + 1)))
      clear HR HG HB
      have HR := Lib.hid hrs
      have HG := Lib.hid hgs
      have HB := Lib.hid hbs
      clear hrs hgs hbs
      obtain ⟨c0, c1, c2, c3, f1, f2, f3⟩ := HR.out
      obtain ⟨d0, d1, d2, d3, d4, d5, d6, d7, d8, _⟩ := HB.out; obtain ⟨e0, e1, e2, e3, e4, e5, e6, e7, e8⟩ := Box9.freed HB.out
      go_quiet (fail)
      have hrq := HR.out.drews nq
      have hgq := grown_trans HG.out (grown_drews b nq _)
      have hbq := HB.out.low (below_drews _ nq)
      clear HR HG HB
      have HR := Lib.hid hrq
      have HG := Lib.hid hgq
      have HB := Lib.hid hbq
      clear hrq hgq hbq
      obtain ⟨c0, c1, c2, c3, f1, f2, f3⟩ := HR.out
      obtain ⟨d0, d1, d2, d3, d4, d5, d6, d7, d8, _⟩ := HB.out; obtain ⟨e0, e1, e2, e3, e4, e5, e6, e7, e8⟩ := Box9.freed HB.out
      go_wp2_with (go_at_call 25; (with_reducible refine (Hid.out KF _ (Hid.out HR)).mono ?_); go_must (rintro _ wv ⟨he, hr1, hg1⟩; subst he; have hg2 := grown_trans (Hid.out HG) hg1; have hb2 := Box9.grown (Hid.out HB) hg1 (Nat.ne_of_gt (Hid.out hb)); clear HR; have HR := Lib.hid hr1; clear HG; have HG := Lib.hid hg2; clear HB; have HB := Lib.hid hb2; obtain ⟨c0, c1, c2, c3, f1, f2, f3⟩ := hr1; obtain ⟨d0, d1, d2, d3, d4, d5, d6, d7, d8, _⟩ := HB.out; obtain ⟨e0, e1, e2, e3, e4, e5, e6, e7, e8⟩ := Box9.freed HB.out; clear hg1 hg2 hb2))
      obtain ⟨W3, hW3, hbx, hr, hgw⟩ := endT (.int .i64 0) (.int .u64 0) (.int .u64 0) (.int .u64 0) (.int .u64 0) (.slice none 0 0) (.int .i64 0) (.int .i64 0) (.int .i64 0) hb.out HR.out HG.out HB.out
      unfold put9 at hW3
      rw [← hW3]
      obtain ⟨l0, l1, l2, l3, l4, l5, l6, l7, l8, _⟩ := hbx
      exact bodyPost_ret (v := .agg #[.int .i64 0, .int .u64 0, .int .u64 0, .int .u64 0, .int .u64 0, .slice none 0 0, .int .i64 0, .int .i64 0, .int .i64 0]) (by simp [results, Tryd.results58, go_sem, l0, l1, l2, l3, l4, l5, l6, l7, l8]) rfl (postd_bad HX.out (.mk 0 none4 [] 0 0 0) none 0 (by rfl) (Kids.leaf _ _ _ _ _ _ _ _) (by rfl) (by exact .inl rfl) hr hgw)
  have n94 : s[k] ≠ 94 := fun h => by rw [h] at hy; exact g94 hy
  have n36 : s[k] ≠ 36 := fun h => by rw [h] at hy; exact g36 hy
  have n46 : s[k] ≠ 46 := fun h => by rw [h] at hy; exact g46 hy
  have n40 : s[k] ≠ 40 := fun h => by rw [h] at hy; exact g40 hy
  have n91 : s[k] ≠ 91 := fun h => by rw [h] at hy; exact g91 hy
  have n92 : s[k] ≠ 92 := fun h => by rw [h] at hy; exact g92 hy
  have nA : s[k] ∉ sgA := by
    have n42 : s[k] ≠ 42 := fun h => by rw [h] at hy; exact g42 hy
    have n43 : s[k] ≠ 43 := fun h => by rw [h] at hy; exact g43 hy
    have n63 : s[k] ≠ 63 := fun h => by rw [h] at hy; exact g63 hy
    have n123 : s[k] ≠ 123 := fun h => by rw [h] at hy; exact g123 hy
    simp [sgA, n94, n36, n46, n40, n91, n92, n42, n43, n63, n123, hstp.1, hstp.2]
  rw [atom_is g hget, if_neg n94, if_neg n36, if_neg n46, if_neg n40, if_neg n91, if_neg n92, if_neg nA] at hR
  obtain ⟨T, hT⟩ : ∃ T, T = ins none4 s[k].toNat := ⟨_, rfl⟩
  have KO := Lib.hid (fun w => one_t s[k] y hy w)
  rw [← hT] at KO hR
  unfold setV4 at KO
  have HX := Lib.hid hR
  have e42 : (y == 42) = false := by simp; omega
  have e43 : (y == 43) = false := by simp; omega
  have e63 : (y == 63) = false := by simp; omega
  have e123 : (y == 123) = false := by simp; omega
  have e40 : (y == 40) = false := by simp; omega
  have e91 : (y == 91) = false := by simp; omega
  have e46 : (y == 46) = false := by simp; omega
  have e94 : (y == 94) = false := by simp; omega
  have e36 : (y == 36) = false := by simp; omega
  have e92 : (y == 92) = false := by simp; omega
  clear hR hget hy lit hstp hsz hT n94 n36 n46 n40 n91 n92 nA g42 g43 g63 g123 g40 g91 g46 g94 g36 g92
  go_enter Tryd.func58, Tryd.ntmps58
  go_wp2
  go_quiet (fail)
  have hrq := HR.out.drews nq
  have hgq := grown_trans HG.out (grown_drews b nq _)
  have hbq := HB.out.low (below_drews _ nq)
  clear HR HG HB
  have HR := Lib.hid hrq
  have HG := Lib.hid hgq
  have HB := Lib.hid hbq
  clear hrq hgq hbq
  obtain ⟨c0, c1, c2, c3, f1, f2, f3⟩ := HR.out
  obtain ⟨d0, d1, d2, d3, d4, d5, d6, d7, d8, _⟩ := HB.out; obtain ⟨e0, e1, e2, e3, e4, e5, e6, e7, e8⟩ := Box9.freed HB.out
  go_wp2_with (go_at_call 69; (with_reducible refine (KO.out _).mono ?_); go_must (rintro _ wv ⟨he, hbl⟩; subst he; have hr1 := Rdr.low (Rdr.incz HR.out ((k : Int) + 1) rfl) hbl; have hb2 := Box9.low (Box9.other HB.out (a := ⟨b, 1, none⟩) (Nat.ne_of_lt hb.out) (.int .i64 ((k : Int) + 1))) hbl; have hg2 := grown_trans (grown_trans HG.out (grown_set b 1 _ (.int .i64 ((k : Int) + 1)))) (grown_below hbl); clear HR; have HR := Lib.hid hr1; clear HG; have HG := Lib.hid hg2; clear HB; have HB := Lib.hid hb2; obtain ⟨c0, c1, c2, c3, f1, f2, f3⟩ := hr1; obtain ⟨d0, d1, d2, d3, d4, d5, d6, d7, d8, _⟩ := HB.out; obtain ⟨e0, e1, e2, e3, e4, e5, e6, e7, e8⟩ := Box9.freed HB.out; clear hbl hg2 hb2))
  obtain ⟨W3, hW3, hbx, hr, hgw⟩ := endT (.int .i64 1) (.int .u64 T.1.toNat) (.int .u64 T.2.1.toNat) (.int .u64 T.2.2.1.toNat) (.int .u64 T.2.2.2.toNat) (.slice none 0 0) (.int .i64 0) (.int .i64 0) (.int .i64 0) hb.out HR.out HG.out HB.out
  unfold put9 at hW3
  rw [← hW3]
  obtain ⟨l0, l1, l2, l3, l4, l5, l6, l7, l8, _⟩ := hbx
  exact bodyPost_ret (v := .agg #[.int .i64 1, .int .u64 T.1.toNat, .int .u64 T.2.1.toNat, .int .u64 T.2.2.1.toNat, .int .u64 T.2.2.2.toNat, .slice none 0 0, .int .i64 0, .int .i64 0, .int .i64 0]) (by simp [results, Tryd.results58, go_sem, l0, l1, l2, l3, l4, l5, l6, l7, l8]) rfl (postd_ok HX.out none 0 (by rfl) (Kids.leaf _ _ _ _ _ _ _ _) (by omega) hr hgw)
end Go.Proofs.YtccheljfbjllhaaDoor
