/- The contract of appendByte: what is printed of one byte. -/
import Derived.Test.YtgamlhhchagnaaaRMay
import Derived.Deep.RegionLaw
namespace Go.Proofs.Ytgamlhhchagnaaa
open Go Go.RowKit

section
variable {P : Program} (w : World)
theorem step_append_own {ops : Array Oper} {o : Oper} {a : Act} {K : Act → World → Prop} {Q : Exit → Act → World → Prop} {E : Prop} (hgd : o.guard = none) (s x : Operand) (t : TypeId)
    (ho : o.op = .call { callee := .builtin .append, args := #[s, x], argTypes := #[t, t] })
    (base : Nat) (e : TypeId) (i : TypeInfo) (z : Value) (size bytes : Nat) (ht : P.underlying t = some (.slice e)) (hi : P.info? e = some i) (hz : i.zero = some z)
    (hsize : i.size = size) (hby : i.bytes = bytes) (hzs : z.cells.size = size) (hsz : 0 < size)
    (v : Value) (n : Nat) (xs : List Value) (hs : a.eval s = v) (hown : w.ownsRow base e size v n xs)
    (ad : Addr) (m c : Nat) (news : List Value) (hx : a.eval x = .slice (some ad) m c) (hl : news.length = m * size) (hnews : ∀ j u, news[j]? = some u → w.cell? (ad.add j) = some u) (h1 : ∀ u ∈ news, u.oneCell' = true)
    (h63 : n + m ≤ maxLen) (hbytes : (n + m) * bytes ≤ 140737488355328) (hbase : base ≤ w.heap.size)
    (h : ∀ v' w', w'.ownsRow base e size v' (n + m) (xs ++ news) → w.grownBy w' v.ownBlock → (v' = .slice none 0 0 ↔ v = .slice none 0 0 ∧ m = 0) → K (a.put o.dst v') w') :
    if Region.wanted o (yielded ops a.tmps) = true then Oper.wp P o a w K Q else E := by
  have hw : Region.wanted o (yielded ops a.tmps) = true := by simp [Region.wanted, hgd]
  rw [if_pos hw]
  exact wp_append_own w s x t ho base e i z size bytes ht hi hz hsize hby hzs hsz v n xs hs hown ad m c news hx hl hnews h1 h63 hbytes hbase h
end
theorem Two2.bytes {B : Nat} {w0 w w' : World} {vp vt v' : Value} {ps : List Pt} {t : Bs} (u : Bs) (h : Two2 B w0 w vp vt ps t)
    (ho : w'.ownsRow B 5 1 v' (t.length + u.length) (byteCells t ++ byteCells u)) (hg : w.grownBy w' vt.ownBlock) : Two2 B w0 w' vp v' ps (t ++ u) :=
  ⟨h.parts.kept hg (own_ne h.parts h.text (by decide)), by rw [List.length_append]; simpa [byteCells, Lib.byteCells] using ho, h.below.grown hg h.size (fun k hk => (h.text.lt k hk).1), Nat.le_trans h.size hg.size⟩
theorem bytes_one (u : Bs) : ∀ x ∈ byteCells u, x.oneCell' = true := by
  intro x hx
  simp only [byteCells, Lib.byteCells, List.mem_map] at hx
  obtain ⟨b, _, rfl⟩ := hx; rfl
/-- What appends leave. -/
def Wrote (B : Nat) (w0 w : World) (vt : Value) (t : Bs) (e : Ending) (w' : World) : Prop := ∃ v', e = .returned v' ∧ Two2 B w0 w' (.slice none 0 0) v' [] t ∧ w.grownBy w' vt.ownBlock
theorem gb_trans {a b c : World} {row : Option Nat} (h : a.grownBy b row) (k : b.grownBy c row) : a.grownBy c row :=
  ⟨k.os.trans h.os, k.tape.trans h.tape, k.output.trans h.output, Nat.le_trans h.size k.size, fun i hi hn => (k.block i (Nat.lt_of_lt_of_le hi h.size) hn).trans (h.block i hi hn)⟩
theorem gb_drew (w : World) (row : Option Nat) : w.grownBy w.drew row := ⟨rfl, rfl, rfl, Nat.le_refl _, fun _ _ _ => rfl⟩
theorem abyte_plain (B : Nat) (w0 w : World) (vt : Value) (t : Bs) (c : UInt8) (ht : t.length ≤ 1000000) (hp : plainB c = true) (h : Two2 B w0 w (.slice none 0 0) vt [] t) :
    Calls Try.prog 18 #[vt, .int .u8 c.toNat] w (Wrote B w0 w vt (t ++ prB c)) := by
  have H := Lib.hid h
  have K := Lib.hid fun w => plain_any c w
  rw [hp] at K
  have e : prB c = [c] := by unfold prB; rw [if_pos hp]
  rw [e]
  obtain ⟨j0, hj, hy0, hy1, hy2⟩ := info_parts info5
  clear h hp e
  go_enter Try.func18, Try.ntmps18
  go_wp2_with (first | (go_at_call 29; ((with_reducible refine (K.out _).mono ?_)); rintro e w1 ⟨rfl, rfl⟩) | (at_builtin; refine wpList_append_own _ rfl (.tmp 8) (.tmp 10) 42 rfl B 5 j0 (.int .u8 0) 1 1 Try.underlying42 hj hy0 hy1 hy2 rfl (by decide) _ _ _ rfl (H.out.text.alloc _) ⟨w.heap.size, 0, none⟩ 1 1 [.int .u8 c.toNat] rfl rfl (fun j u hu => new_cells w 5 #[.int .u8 c.toNat] j u hu) (one_one _) (by unfold maxLen; omega) (by omega) (H.out.alloc _).size ?_; intro v2 w3 hown' hgrow _))
  go_ret
  exact ⟨_, rfl, (H.out.alloc _).bytes [c] hown' hgrow, gb_trans (World.grownBy_alloc w _ _) hgrow⟩
theorem idx_is (set : ByteArray) (c : UInt8) (v : Int) (h : Lib.indexByte set.data.toList c = v) (w : World) :
    Calls Try.prog 30 #[.string set, .int .u8 (c.toNat : Nat)] w fun e w' => e = .returned (.int .i64 v) ∧ w = w' :=
  (Try.strings_IndexByte set (c.toNat : Nat) w).mono fun e w' ⟨he, hw⟩ => ⟨by rw [he, ← h]; simp, hw.symm⟩
theorem abyte_esc (B : Nat) (w0 w : World) (vt : Value) (t : Bs) (c d : UInt8) (j : Int) (ht : t.length ≤ 1000000) (hp : plainB c = false) (hpr : prB c = [92, d]) (hj : Lib.indexByte escSet.data.toList c = j)
    (hd : (j = 0 ∧ d = 110) ∨ (j = 1 ∧ d = 114) ∨ (j = 2 ∧ d = 116) ∨ (j = 3 ∧ d = 34) ∨ (j = 4 ∧ d = 92) ∨ (j = 5 ∧ d = 36)) (h : Two2 B w0 w (.slice none 0 0) vt [] t) :
    Calls Try.prog 18 #[vt, .int .u8 c.toNat] w (Wrote B w0 w vt (t ++ prB c)) := by
  have H := Lib.hid h
  have K := Lib.hid fun w => plain_any c w
  rw [hp] at K
  rw [hpr]
  have K2 : Hid (∀ w, Calls Try.prog 30 #[.string ⟨#[10, 13, 9, 34, 92, 36]⟩, .int .u8 (c.toNat : Nat)] w fun e w' => e = .returned (.int .i64 j) ∧ w = w') := Lib.hid fun w => idx_is escSet c j hj w
  obtain ⟨j0, hj0, hy0, hy1, hy2⟩ := info_parts info5
  clear h hp hpr hj
  rcases hd with ⟨rfl, rfl⟩ | ⟨rfl, rfl⟩ | ⟨rfl, rfl⟩ | ⟨rfl, rfl⟩ | ⟨rfl, rfl⟩ | ⟨rfl, rfl⟩
  · go_enter Try.func18, Try.ntmps18
    go_wp2_with (first | (go_at_call 29; ((with_reducible refine (K.out _).mono ?_)); rintro e w1 ⟨rfl, rfl⟩) | (go_at_call 30; ((with_reducible refine (K2.out _).mono ?_)); rintro e w1 ⟨rfl, rfl⟩) | (at_builtin; refine wpList_append_own _ rfl (.tmp 16) (.tmp 19) 42 rfl B 5 j0 (.int .u8 0) 1 1 Try.underlying42 hj0 hy0 hy1 hy2 rfl (by decide) _ _ _ rfl (H.out.text.alloc _) ⟨w.heap.size, 0, none⟩ 2 2 (byteCells [92, 110]) rfl rfl (fun j u hu => new_cells w 5 #[.int .u8 92, .int .u8 110] j u hu) (bytes_one _) (by unfold maxLen; omega) (by omega) (H.out.alloc _).size ?_; intro v2 w3 hown' hgrow _))
    go_ret
    exact ⟨_, rfl, (H.out.alloc _).bytes [92, 110] hown' hgrow, gb_trans (World.grownBy_alloc w _ _) hgrow⟩
  · go_enter Try.func18, Try.ntmps18
    go_wp2_with (first | (go_at_call 29; ((with_reducible refine (K.out _).mono ?_)); rintro e w1 ⟨rfl, rfl⟩) | (go_at_call 30; ((with_reducible refine (K2.out _).mono ?_)); rintro e w1 ⟨rfl, rfl⟩) | (at_builtin; refine wpList_append_own _ rfl (.tmp 16) (.tmp 19) 42 rfl B 5 j0 (.int .u8 0) 1 1 Try.underlying42 hj0 hy0 hy1 hy2 rfl (by decide) _ _ _ rfl (H.out.text.alloc _) ⟨w.heap.size, 0, none⟩ 2 2 (byteCells [92, 114]) rfl rfl (fun j u hu => new_cells w 5 #[.int .u8 92, .int .u8 114] j u hu) (bytes_one _) (by unfold maxLen; omega) (by omega) (H.out.alloc _).size ?_; intro v2 w3 hown' hgrow _))
    go_ret
    exact ⟨_, rfl, (H.out.alloc _).bytes [92, 114] hown' hgrow, gb_trans (World.grownBy_alloc w _ _) hgrow⟩
  · go_enter Try.func18, Try.ntmps18
    go_wp2_with (first | (go_at_call 29; ((with_reducible refine (K.out _).mono ?_)); rintro e w1 ⟨rfl, rfl⟩) | (go_at_call 30; ((with_reducible refine (K2.out _).mono ?_)); rintro e w1 ⟨rfl, rfl⟩) | (at_builtin; refine wpList_append_own _ rfl (.tmp 16) (.tmp 19) 42 rfl B 5 j0 (.int .u8 0) 1 1 Try.underlying42 hj0 hy0 hy1 hy2 rfl (by decide) _ _ _ rfl (H.out.text.alloc _) ⟨w.heap.size, 0, none⟩ 2 2 (byteCells [92, 116]) rfl rfl (fun j u hu => new_cells w 5 #[.int .u8 92, .int .u8 116] j u hu) (bytes_one _) (by unfold maxLen; omega) (by omega) (H.out.alloc _).size ?_; intro v2 w3 hown' hgrow _))
    go_ret
    exact ⟨_, rfl, (H.out.alloc _).bytes [92, 116] hown' hgrow, gb_trans (World.grownBy_alloc w _ _) hgrow⟩
  · go_enter Try.func18, Try.ntmps18
    go_wp2_with (first | (go_at_call 29; ((with_reducible refine (K.out _).mono ?_)); rintro e w1 ⟨rfl, rfl⟩) | (go_at_call 30; ((with_reducible refine (K2.out _).mono ?_)); rintro e w1 ⟨rfl, rfl⟩) | (at_builtin; refine wpList_append_own _ rfl (.tmp 16) (.tmp 19) 42 rfl B 5 j0 (.int .u8 0) 1 1 Try.underlying42 hj0 hy0 hy1 hy2 rfl (by decide) _ _ _ rfl (H.out.text.alloc _) ⟨w.heap.size, 0, none⟩ 2 2 (byteCells [92, 34]) rfl rfl (fun j u hu => new_cells w 5 #[.int .u8 92, .int .u8 34] j u hu) (bytes_one _) (by unfold maxLen; omega) (by omega) (H.out.alloc _).size ?_; intro v2 w3 hown' hgrow _))
    go_ret
    exact ⟨_, rfl, (H.out.alloc _).bytes [92, 34] hown' hgrow, gb_trans (World.grownBy_alloc w _ _) hgrow⟩
  · go_enter Try.func18, Try.ntmps18
    go_wp2_with (first | (go_at_call 29; ((with_reducible refine (K.out _).mono ?_)); rintro e w1 ⟨rfl, rfl⟩) | (go_at_call 30; ((with_reducible refine (K2.out _).mono ?_)); rintro e w1 ⟨rfl, rfl⟩) | (at_builtin; refine wpList_append_own _ rfl (.tmp 16) (.tmp 19) 42 rfl B 5 j0 (.int .u8 0) 1 1 Try.underlying42 hj0 hy0 hy1 hy2 rfl (by decide) _ _ _ rfl (H.out.text.alloc _) ⟨w.heap.size, 0, none⟩ 2 2 (byteCells [92, 92]) rfl rfl (fun j u hu => new_cells w 5 #[.int .u8 92, .int .u8 92] j u hu) (bytes_one _) (by unfold maxLen; omega) (by omega) (H.out.alloc _).size ?_; intro v2 w3 hown' hgrow _))
    go_ret
    exact ⟨_, rfl, (H.out.alloc _).bytes [92, 92] hown' hgrow, gb_trans (World.grownBy_alloc w _ _) hgrow⟩
  · go_enter Try.func18, Try.ntmps18
    go_wp2_with (first | (go_at_call 29; ((with_reducible refine (K.out _).mono ?_)); rintro e w1 ⟨rfl, rfl⟩) | (go_at_call 30; ((with_reducible refine (K2.out _).mono ?_)); rintro e w1 ⟨rfl, rfl⟩) | (at_builtin; refine wpList_append_own _ rfl (.tmp 16) (.tmp 19) 42 rfl B 5 j0 (.int .u8 0) 1 1 Try.underlying42 hj0 hy0 hy1 hy2 rfl (by decide) _ _ _ rfl (H.out.text.alloc _) ⟨w.heap.size, 0, none⟩ 2 2 (byteCells [92, 36]) rfl rfl (fun j u hu => new_cells w 5 #[.int .u8 92, .int .u8 36] j u hu) (bytes_one _) (by unfold maxLen; omega) (by omega) (H.out.alloc _).size ?_; intro v2 w3 hown' hgrow _))
    go_ret
    exact ⟨_, rfl, (H.out.alloc _).bytes [92, 36] hown' hgrow, gb_trans (World.grownBy_alloc w _ _) hgrow⟩
theorem hexC_at : ∀ n : Nat, n < 16 → ∀ h : n < hexSet.size, hexSet[n] = hexC n := by decide +kernel
theorem Two2.drew {B : Nat} {w0 w : World} {vp vt : Value} {ps : List Pt} {t : Bs} (h : Two2 B w0 w vp vt ps t) : Two2 B w0 w.drew vp vt ps t := ⟨h.parts, h.text, h.below.drew, h.size⟩
theorem and15 : ∀ n : Nat, n < 256 → bits .and .u8 (n : Int) 15 = ((n % 16 : Nat) : Int) := by decide +kernel
theorem abyte_hex (B : Nat) (w0 w : World) (vt : Value) (t : Bs) (c : UInt8) (ht : t.length ≤ 1000000) (hp : plainB c = false) (hpr : prB c = [92, 120, hexC (c.toNat / 16), hexC (c.toNat % 16)]) (hj : Lib.indexByte escSet.data.toList c = -1) (h : Two2 B w0 w (.slice none 0 0) vt [] t) :
    Calls Try.prog 18 #[vt, .int .u8 c.toNat] w (Wrote B w0 w vt (t ++ prB c)) := by
  have H := Lib.hid h
  have K := Lib.hid fun w => plain_any c w
  rw [hp] at K
  rw [hpr]
  have K2 : Hid (∀ w, Calls Try.prog 30 #[.string ⟨#[10, 13, 9, 34, 92, 36]⟩, .int .u8 (c.toNat : Nat)] w fun e w' => e = .returned (.int .i64 (-1)) ∧ w = w') := Lib.hid fun w => idx_is escSet c _ hj w
  obtain ⟨j0, hj0, hy0, hy1, hy2⟩ := info_parts info5
  clear h hp hpr hj
  have c256 := UInt8.toNat_lt c
  obtain ⟨a, ha⟩ : ∃ a, a = c.toNat / 16 := ⟨_, rfl⟩
  obtain ⟨b, hb⟩ : ∃ b, b = c.toNat % 16 := ⟨_, rfl⟩
  rw [← ha, ← hb]
  have e1 : (c.toNat : Int) / 16 = (a : Int) := by omega
  have e2 : bits .and .u8 (c.toNat : Int) 15 = (b : Int) := by rw [and15 _ c256, hb]
  obtain ⟨x, hx⟩ : ∃ x : Int, x = (c.toNat : Int) := ⟨_, rfl⟩
  rw [← hx] at K K2 e1 e2 ⊢
  have x0 : 0 ≤ x := by omega
  have x1 : x ≤ 255 := by omega
  have a0 : (0 : Int) ≤ a ∧ (a : Int) < 16 := by omega
  have b0 : (0 : Int) ≤ b ∧ (b : Int) < 16 := by omega
  have a1 : a < 16 := by omega
  have b1 : b < 16 := by omega
  clear hx ha hb
  go_enter Try.func18, Try.ntmps18
  go_wp2_with (first | (go_at_call 29; ((with_reducible refine (K.out _).mono ?_)); rintro e w1 ⟨rfl, rfl⟩) | (go_at_call 30; ((with_reducible refine (K2.out _).mono ?_)); rintro e w1 ⟨rfl, rfl⟩))
  go_region_law (refine step_append_own _ rfl (.tmp 21) (.tmp 28) 42 rfl B 5 j0 (.int .u8 0) 1 1 Try.underlying42 hj0 hy0 hy1 hy2 rfl (by decide) _ _ _ rfl (H.out.drew.text.alloc _) ⟨w.drew.heap.size, 0, none⟩ 4 4 (byteCells [92, 120, hexSet[a], hexSet[b]]) rfl rfl (fun j u hu => new_cells w.drew 5 #[.int .u8 92, .int .u8 120, .int .u8 hexSet[a].toNat, .int .u8 hexSet[b].toNat] j u hu) (bytes_one _) (by unfold maxLen; omega) (by omega) (H.out.drew.alloc _).size ?_; intro v2 w3 hown' hgrow _)
  all_goals
    go_wp2
    go_ret
    have hz := (H.out.drew.alloc _).bytes [92, 120, hexSet[a], hexSet[b]] hown' hgrow
    have e3 : ([92, 120, hexSet[a], hexSet[b]] : Bs) = [92, 120, hexC a, hexC b] := by
      simp only [List.cons.injEq, true_and, and_true]
      exact ⟨hexC_at a a1 _, hexC_at b b1 _⟩
    exact ⟨_, rfl, e3 ▸ hz, gb_trans (gb_trans (gb_drew w _) (World.grownBy_alloc w.drew _ _)) hgrow⟩
theorem abyte_any (B : Nat) (w0 w : World) (vt : Value) (t : Bs) (c : UInt8) (ht : t.length ≤ 1000000) (h : Two2 B w0 w (.slice none 0 0) vt [] t) :
    Calls Try.prog 18 #[vt, .int .u8 c.toNat] w (Wrote B w0 w vt (t ++ prB c)) := by
  by_cases hp : plainB c = true
  · exact abyte_plain B w0 w vt t c ht hp h
  · have hp := Bool.eq_false_iff.2 hp
    have hx : ∀ c : UInt8, (plainB c = false → prB c = [92, 120, hexC (c.toNat / 16), hexC (c.toNat % 16)] ∧ Lib.indexByte escSet.data.toList c = -1) ∨
        (prB c = [92, 110] ∧ Lib.indexByte escSet.data.toList c = 0) ∨ (prB c = [92, 114] ∧ Lib.indexByte escSet.data.toList c = 1) ∨ (prB c = [92, 116] ∧ Lib.indexByte escSet.data.toList c = 2) ∨
        (prB c = [92, 34] ∧ Lib.indexByte escSet.data.toList c = 3) ∨ (prB c = [92, 92] ∧ Lib.indexByte escSet.data.toList c = 4) ∨ (prB c = [92, 36] ∧ Lib.indexByte escSet.data.toList c = 5) :=
      all256 _ (by decide +kernel)
    rcases hx c with h1 | ⟨h1, h2⟩ | ⟨h1, h2⟩ | ⟨h1, h2⟩ | ⟨h1, h2⟩ | ⟨h1, h2⟩ | ⟨h1, h2⟩
    · obtain ⟨h1, h2⟩ := h1 hp
      exact abyte_hex B w0 w vt t c ht hp h1 h2 h
    · exact abyte_esc B w0 w vt t c 110 _ ht hp h1 h2 (.inl ⟨rfl, rfl⟩) h
    · exact abyte_esc B w0 w vt t c 114 _ ht hp h1 h2 (.inr (.inl ⟨rfl, rfl⟩)) h
    · exact abyte_esc B w0 w vt t c 116 _ ht hp h1 h2 (.inr (.inr (.inl ⟨rfl, rfl⟩))) h
    · exact abyte_esc B w0 w vt t c 34 _ ht hp h1 h2 (.inr (.inr (.inr (.inl ⟨rfl, rfl⟩)))) h
    · exact abyte_esc B w0 w vt t c 92 _ ht hp h1 h2 (.inr (.inr (.inr (.inr (.inl ⟨rfl, rfl⟩))))) h
    · exact abyte_esc B w0 w vt t c 36 _ ht hp h1 h2 (.inr (.inr (.inr (.inr (.inr ⟨rfl, rfl⟩))))) h
end Go.Proofs.Ytgamlhhchagnaaa
