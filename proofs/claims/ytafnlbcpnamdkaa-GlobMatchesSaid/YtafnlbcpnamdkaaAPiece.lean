/- The contract of appendPiece: what is printed of one piece. -/
import Derived.Test.YtafnlbcpnamdkaaAByte
import Derived.Deep.RegionHeld3
import Derived.Deep.DrawnRows
namespace Go.Proofs.Ytafnlbcpnamdkaa
open Go Go.RowKit
attribute [local go_sem ↓] Go.wp_at_zero Go.wp_at_succ

section
variable {P : Program} (w : World)
theorem step_append_own {ops : Array Oper} {o : Oper} {a : Act} {K : Act → World → Prop} {Q : Exit → Act → World → Prop} {E : Prop} (hgd : o.guard = none) (s x : Operand) (t : TypeId)
    (ho : o.op = .call { callee := .builtin .append, args := #[s, x], argTypes := #[t, t] })
    (base : Nat) (e : TypeId) (i : TypeInfo) (z : Value) (size bytes : Nat) (ht : P.underlying t = some (.slice e)) (hi : P.info? e = some i) (hz : i.zero = some z)
    (hsize : i.size = size) (hby : i.bytes = bytes) (hzs : z.cells.size = size) (hsz : 0 < size)
    (v : Value) (n : Nat) (xs : List Value) (hs : a.eval s = v) (hown : w.ownsRow base e size v n xs)
    (ad : Addr) (m c : Nat) (news : List Value) (hx : a.eval x = .slice (some ad) m c) (hl : news.length = m * size) (hnews : ∀ j u, news[j]? = some u → w.cell? (ad.add j) = some u) (h1 : ∀ u ∈ news, u.oneCell' = true)
    (h63 : n + m ≤ maxLen) (hbytes : (n + m) * bytes ≤ 140737488355328) (hbase : base ≤ w.heap.size)
    (h : ∀ v' w', w'.ownsRow base e size v' (n + m) (xs ++ news) → w.grownBy w' v.ownBlock → (v' = .slice none 0 0 ↔ v = .slice none 0 0 ∧ m = 0) → K (a.put o.dst v') w') :
    if Region.wanted o (yielded ops a.tmps) = true then Oper.wp P o a w K Q else E := by
  have hw : Region.wanted o (yielded ops a.tmps) = true := by simp [Region.wanted, hgd]
  rw [if_pos hw]
  exact wp_append_own w s x t ho base e i z size bytes ht hi hz hsize hby hzs hsz v n xs hs hown ad m c news hx hl hnews h1 h63 hbytes hbase h
end
def PostB (B : Nat) (w0 : World) (t : Bs) (e : Ending) (w' : World) : Prop := ∃ v', e = .returned v' ∧ RowB B w0 w' v' t
theorem box_cell {w w' : World} {x y z : Value} (h : KeptT (w.alloc (.cells #[x, y, z] 40)) w') : w'.cell? ⟨w.heap.size, 2, none⟩ = some z :=
  h.cell (heap_alloc_new w _) (by decide) 2
theorem box2 {w w' : World} {x y : Value} (h : KeptT (w.alloc (.cells #[x, y] 48)) w') : w'.cell? ⟨w.heap.size, 0, none⟩ = some x ∧ w'.cell? ⟨w.heap.size, 1, none⟩ = some y :=
  ⟨h.cell (heap_alloc_new w _) (by decide) 0, h.cell (heap_alloc_new w _) (by decide) 1⟩
theorem box_heap {w w' : World} {x y : Value} (h : KeptT (w.alloc (.cells #[x, y] 48)) w') : w'.heap[w.heap.size]? = some (.cells #[x, y] 48 (0, 0)) := h.2 _ _ _ (heap_alloc_new w _) (by decide)
theorem box2' {w1 w3 : World} {o : Obj} {b : Nat} {x y : Value} (h : w1.heap[b]? = some (.cells #[x, y] 48 (0, 0))) (hk : KeptT (w1.drew.alloc o) w3) : w3.cell? ⟨b, 1, none⟩ = some y :=
  (((KeptT.drew w1).trans (KeptT.alloc _ o)).trans hk).cell h (by decide) 1
theorem box3 {w1 w3 : World} {o : Obj} {b : Nat} {x y : Value} (h : w1.heap[b]? = some (.cells #[x, y] 48 (0, 0))) (hk : KeptT (w1.drew.alloc o) w3) : w3.heap[b]? = some (.cells #[x, y] 48 (0, 0)) :=
  (((KeptT.drew w1).trans (KeptT.alloc _ o)).trans hk).2 _ _ _ h (by decide)
theorem box4 {w1 w3 : World} {b : Nat} {x y : Value} (h : w1.heap[b]? = some (.cells #[x, y] 48 (0, 0))) (hk : KeptT w1 w3) : w3.cell? ⟨b, 1, none⟩ = some y := hk.cell h (by decide) 1
theorem esc_len (sg : Bs) (c : UInt8) : (esc sg c).length ≤ 2 := by unfold esc; split <;> simp
theorem itemT_len (p : Sp) : (itemT p).length ≤ 5 := by
  unfold itemT
  have := esc_len sgI p.1
  have := esc_len sgI p.2
  split <;> simp <;> omega
theorem items_len : ∀ l : List Sp, (l.flatMap itemT).length ≤ 5 * l.length
  | [] => by simp
  | p :: l => by
    have := items_len l
    have := itemT_len p
    rw [List.flatMap_cons, List.length_append, List.length_cons]; omega
theorem take_flat {α : Type} {l : List α} {k : Nat} {p : α} (f : α → Bs) (h : l[k]? = some p) : (l.take (k + 1)).flatMap f = (l.take k).flatMap f ++ f p := by
  obtain ⟨hk, e⟩ := List.getElem?_eq_some_iff.1 h
  rw [List.take_succ_eq_append_getElem hk, e]; simp
def LoopA (B : Nat) (w0 : World) (u : Bs) (l : List Sp) (n : Nat) (v i : Value) (w : World) : Prop := ∃ k : Nat, k ≤ n ∧ i = .int .i64 k ∧ RowB B w0 w v (u ++ (l.take k).flatMap itemT) ∧ (u ++ (l.take k).flatMap itemT).length ≤ 900000
set_option maxHeartbeats 2000000 in
theorem apiece_set (B : Nat) (w0 w : World) (vt : Value) (t : Bs) (g : Gl) (A : Option Addr) (c : Nat) (h2 : g.kind ≠ 2) (h1 : g.kind ≠ 1) (h0 : g.kind ≠ 0) (ht : t.length ≤ 1000) (hsp : g.spans.length ≤ 1000) (h : RowB B w0 w vt t) (hr : RdS B w0 A g.spans) :
    Calls Try.prog 19 #[vt, .agg #[.int .i64 g.kind, .int .u8 g.byte.toNat, .slice A g.spans.length c]] w (PostB B w0 (t ++ textG g)) := by
  have he : textG g = 91 :: (g.spans.flatMap itemT ++ [93]) := by unfold textG; rw [if_neg h2, if_neg h1, if_neg h0]
  rw [he]
  obtain ⟨kind, byte, spans⟩ := g
  dsimp only at *
  have b0 : (kind == 0) = false := by simpa using h0
  have b1 : (kind == 1) = false := by simpa using h1
  have b2 : (kind == 2) = false := by simpa using h2
  obtain ⟨n, hn⟩ : ∃ n, n = spans.length := ⟨_, rfl⟩
  rw [← hn] at hsp ⊢
  have HN := Lib.hid hn
  have HR := Lib.hid hr
  have H := Lib.hid h
  obtain ⟨j0, hj, hy0, hy1, hy2⟩ := info_parts info5
  obtain ⟨y0, hy0'⟩ : ∃ y : Int, y = (byte.toNat : Int) := ⟨_, rfl⟩
  rw [← hy0']
  clear h2 h1 h0 he hn hr h hy0'
  go_enter Try.func19, Try.ntmps19
  go_wp2_with (at_builtin; refine wpList_append_own _ rfl (.tmp 25) (.tmp 26) 41 rfl B 5 j0 (.int .u8 0) 1 1 Try.underlying41 hj hy0 hy1 hy2 rfl (by decide) _ _ _ rfl ((H.out.alloc _).alloc _).row ⟨w.heap.size + 1, 0, none⟩ 1 1 (byteCells [91]) rfl rfl (fun j u hu => new_cells2 w (.cells #[.int .i64 kind, .int .u8 y0, .slice A n c] 40) 5 #[.int .u8 91] j u hu) (bytes_one _) (by unfold maxLen; omega) (by omega) ((H.out.alloc _).alloc _).size ?_; intro v2 w3 hown' hgrow _; have hc := box_cell ((KeptT.alloc _ _).trans (KeptT.grown ((H.out.alloc _).alloc _).row hgrow)); have H3 := Lib.hid (((H.out.alloc _).alloc _).bytes [91] hown' hgrow); have hl3 := len_snoc ht (91 : UInt8); clear hown' hgrow)
  go_loopw [0, 31] (fun v i wr => LoopA B w0 (t ++ [91]) spans n v i wr) (fun _ i _ => n - (intOf i).toNat)
  case atStart => exact ⟨0, by omega, rfl, by simpa using H3.out, by simp; omega⟩
  case round =>
    obtain ⟨k, hk, rfl, hrow, hlen⟩ := hrel
    have HT := Lib.hid hrow
    clear hrow
    by_cases a : k < n
    · obtain ⟨p, hp⟩ := get_of_lt HN.out a
      obtain ⟨ad, rfl, c0, c1⟩ := (HR.out.keep HT.out.below).at_ hp
      obtain ⟨x, hx⟩ : ∃ x : Int, x = p.1.toNat := ⟨_, rfl⟩
      obtain ⟨y, hy⟩ : ∃ y : Int, y = p.2.toNat := ⟨_, rfl⟩
      have K1 : ∀ w1 v1 t1, t1.length ≤ 1000000 → RowB B w0 w1 v1 t1 → Calls Try.prog 29 #[v1, .int .u8 x, .string ⟨#[93, 45, 92]⟩] w1 (Wrote B w0 w1 (t1 ++ esc sgI p.1)) := fun w1 v1 t1 ht1 h1 => by rw [hx]; exact abyte_any B w0 w1 v1 t1 p.1 setI sgI looksI ht1 h1
      have K2 : ∀ w1 v1 t1, t1.length ≤ 1000000 → RowB B w0 w1 v1 t1 → Calls Try.prog 29 #[v1, .int .u8 y, .string ⟨#[93, 45, 92]⟩] w1 (Wrote B w0 w1 (t1 ++ esc sgI p.2)) := fun w1 v1 t1 ht1 h1 => by rw [hy]; exact abyte_any B w0 w1 v1 t1 p.2 setI sgI looksI ht1 h1
      have HK1 := Lib.hid K1
      have HK2 := Lib.hid K2
      rw [← hx] at c0
      rw [← hy] at c1
      have hit : itemT p = esc sgI p.1 ++ if x < y then 45 :: esc sgI p.2 else [] := by rw [hx, hy]; rfl
      have HF := Lib.hid (take_flat itemT hp)
      have hel := esc_len sgI p.1
      have hel2 := esc_len sgI p.2
      have hi5 := items_len (spans.take (k + 1))
      have hi6 : (spans.take (k + 1)).length ≤ 1000 := by rw [List.length_take]; omega
      have hlen2 : (t ++ [91] ++ (spans.take (k + 1)).flatMap itemT).length ≤ 900000 := by rw [List.length_append, List.length_append]; simp only [List.length_singleton]; omega
      by_cases l1 : x < y
      · rw [if_pos l1] at hit
        have HI := Lib.hid hit
        clear hp hx hy K1 K2 hit
        go_wp2_with (go_at_call 29; ((with_reducible refine (HK1.out _ _ _ ?_ (HT.out.alloc _)).mono ?_)); (omega); rintro e w1 ⟨v1, rfl, hrow1, hkept⟩; obtain ⟨d0, d1⟩ := box2 hkept; have HH := Lib.hid (box_heap hkept); have HW1 := Lib.hid hrow1; clear hrow1 hkept)
        obtain ⟨t1, ht1⟩ : ∃ t1, t1 = t ++ [91] ++ List.flatMap itemT (List.take k spans) ++ esc sgI p.1 := ⟨_, rfl⟩
        have hl1 : t1.length ≤ 900002 := by rw [ht1, List.length_append]; omega
        rw [← ht1] at HW1
        have HT1 := Lib.hid ht1
        clear ht1
        have hl2 := len_snoc hl1 (45 : UInt8)
        go_region_held3 (fun w' => w'.cell? ⟨wr.heap.size, 1, none⟩ = some (.int .u8 y))
          (first | go_keep | exact hs1 | exact hs2)
          (first
            | ((refine step_append_own _ (by rfl) (.tmp 44) (.tmp 45) 41 (by rfl) B 5 j0 (.int .u8 0) 1 1 Try.underlying41 hj hy0 hy1 hy2 (by rfl) (by decide) v1 t1.length (byteCells t1) (by rfl) (HW1.out.drew.alloc _).row ⟨w1.heap.size, 0, none⟩ 1 1 (byteCells [45]) (by rfl) (by rfl) (fun j u hu => new_cells w1.drew 5 #[.int .u8 45] j u hu) (bytes_one _) (by unfold maxLen; omega) (by omega) (HW1.out.drew.alloc _).size ?_; intro v2 w3 hown' hgrow _; have hs1 := (box2' HH.out (KeptT.grown (HW1.out.drew.alloc _).row hgrow)); have HH3 := Lib.hid (box3 HH.out (KeptT.grown (HW1.out.drew.alloc _).row hgrow)); have H5 := Lib.hid ((HW1.out.drew.alloc _).bytes [45] hown' hgrow); clear hown' hgrow))
            | (go_at_call 29; ((with_reducible refine (HK2.out _ _ _ ?_ H5.out).mono ?_)); (omega); rintro e w4 ⟨v4, rfl, hrow4, hkept4⟩; have hs2 := box4 HH3.out hkept4; have H6 := Lib.hid hrow4; clear hrow4 hkept4))
        go_wp2
        go_roundw
        case rel => exact ⟨k + 1, by omega, by go_num, by rw [HF.out, HI.out]; have := H6.out; rw [HT1.out] at this; simpa using this, hlen2⟩
        case measure => simp [intOf]; omega
      · rw [if_neg l1, List.append_nil] at hit
        have HI := Lib.hid hit
        clear hp hx hy K1 K2 hit
        go_wp2_with (go_at_call 29; ((with_reducible refine (HK1.out _ _ _ ?_ (HT.out.alloc _)).mono ?_)); (omega); rintro e w1 ⟨v1, rfl, hrow1, hkept⟩; obtain ⟨d0, d1⟩ := box2 hkept; have HW1 := Lib.hid hrow1; clear hrow1 hkept)
        go_roundw
        case rel => exact ⟨k + 1, by omega, by go_num, by rw [HF.out, HI.out]; have := HW1.out; simpa using this, hlen2⟩
        case measure => simp [intOf]; omega
    · have HE : Hid (spans.take k = spans) := Lib.hid (List.take_of_length_le (by have := HN.out; omega))
      rw [HE.out] at HT hlen
      go_wp2_with (at_builtin; refine wpList_append_own _ rfl (.tmp 51) (.tmp 52) 41 rfl B 5 j0 (.int .u8 0) 1 1 Try.underlying41 hj hy0 hy1 hy2 rfl (by decide) _ _ _ rfl (HT.out.alloc _).row ⟨wr.heap.size, 0, none⟩ 1 1 (byteCells [93]) rfl rfl (fun j u hu => new_cells wr 5 #[.int .u8 93] j u hu) (bytes_one _) (by unfold maxLen; omega) (by omega) (HT.out.alloc _).size ?_; intro v4 w4 hown4 hgrow4 _)
      go_ret
      refine ⟨_, rfl, ?_⟩
      have := (HT.out.alloc _).bytes [93] hown4 hgrow4
      simpa using this
set_option maxHeartbeats 2000000 in
theorem apiece_any (B : Nat) (w0 w : World) (vt : Value) (t : Bs) (g : Gl) (A : Option Addr) (c : Nat) (ht : t.length ≤ 1000) (hsp : g.spans.length ≤ 1000) (h : RowB B w0 w vt t) (hr : RdS B w0 A g.spans) :
    Calls Try.prog 19 #[vt, .agg #[.int .i64 g.kind, .int .u8 g.byte.toNat, .slice A g.spans.length c]] w (PostB B w0 (t ++ textG g)) := by
  by_cases h2 : g.kind = 2
  · have he : textG g = [42] := by unfold textG; rw [if_pos h2]
    rw [he, h2]
    have H := Lib.hid h
    obtain ⟨j0, hj, hy0, hy1, hy2⟩ := info_parts info5
    obtain ⟨y0, hy0'⟩ : ∃ y : Int, y = (g.byte.toNat : Int) := ⟨_, rfl⟩
    obtain ⟨n, hn⟩ : ∃ n, n = g.spans.length := ⟨_, rfl⟩
    rw [← hy0', ← hn]
    clear h h2 he hr hy0' hn hsp
    go_enter Try.func19, Try.ntmps19
    go_wp2_with (at_builtin; refine wpList_append_own _ rfl (.tmp 11) (.tmp 12) 41 rfl B 5 j0 (.int .u8 0) 1 1 Try.underlying41 hj hy0 hy1 hy2 rfl (by decide) _ _ _ rfl ((H.out.alloc _).alloc _).row ⟨w.heap.size + 1, 0, none⟩ 1 1 (byteCells [42]) rfl rfl (fun j u hu => new_cells2 w (.cells #[.int .i64 2, .int .u8 y0, .slice A n c] 40) 5 #[.int .u8 42] j u hu) (bytes_one _) (by unfold maxLen; omega) (by omega) ((H.out.alloc _).alloc _).size ?_; intro v2 w3 hown' hgrow _)
    go_ret
    exact ⟨_, rfl, ((H.out.alloc _).alloc _).bytes [42] hown' hgrow⟩
  · by_cases h1 : g.kind = 1
    · have he : textG g = [63] := by unfold textG; rw [if_neg h2, if_pos h1]
      rw [he, h1]
      have H := Lib.hid h
      obtain ⟨j0, hj, hy0, hy1, hy2⟩ := info_parts info5
      obtain ⟨y0, hy0'⟩ : ∃ y : Int, y = (g.byte.toNat : Int) := ⟨_, rfl⟩
      obtain ⟨n, hn⟩ : ∃ n, n = g.spans.length := ⟨_, rfl⟩
      rw [← hy0', ← hn]
      clear h h2 h1 he hr hy0' hn hsp
      go_enter Try.func19, Try.ntmps19
      go_wp2_with (at_builtin; refine wpList_append_own _ rfl (.tmp 16) (.tmp 17) 41 rfl B 5 j0 (.int .u8 0) 1 1 Try.underlying41 hj hy0 hy1 hy2 rfl (by decide) _ _ _ rfl ((H.out.alloc _).alloc _).row ⟨w.heap.size + 1, 0, none⟩ 1 1 (byteCells [63]) rfl rfl (fun j u hu => new_cells2 w (.cells #[.int .i64 1, .int .u8 y0, .slice A n c] 40) 5 #[.int .u8 63] j u hu) (bytes_one _) (by unfold maxLen; omega) (by omega) ((H.out.alloc _).alloc _).size ?_; intro v2 w3 hown' hgrow _)
      go_ret
      exact ⟨_, rfl, ((H.out.alloc _).alloc _).bytes [63] hown' hgrow⟩
    · by_cases h0 : g.kind = 0
      · have he : textG g = esc sgP g.byte := by unfold textG; rw [if_neg h2, if_neg h1, if_pos h0]
        rw [he, h0]
        have H := Lib.hid h
        obtain ⟨y0, hy0'⟩ : ∃ y : Int, y = (g.byte.toNat : Int) := ⟨_, rfl⟩
        obtain ⟨n, hn⟩ : ∃ n, n = g.spans.length := ⟨_, rfl⟩
        have K : ∀ w1, RowB B w0 w1 vt t → Calls Try.prog 29 #[vt, .int .u8 y0, .string ⟨#[42, 63, 91, 92]⟩] w1 (Wrote B w0 w1 (t ++ esc sgP g.byte)) := fun w1 h1 => by rw [hy0']; exact abyte_any B w0 w1 vt t g.byte setP sgP looksP (by omega) h1
        rw [← hy0', ← hn]
        have K := Lib.hid K
        clear h h2 h1 h0 he hr hy0' hn hsp
        go_enter Try.func19, Try.ntmps19
        go_wp2_with (go_at_call 29; ((with_reducible refine (K.out _ (H.out.alloc _)).mono ?_)); rintro e w1 ⟨v1, rfl, hrow1, hkept⟩)
        go_ret
        exact ⟨_, rfl, hrow1⟩
      · exact apiece_set B w0 w vt t g A c h2 h1 h0 ht hsp h hr
end Go.Proofs.Ytafnlbcpnamdkaa
