/- The contract of Print, for every list of parts whose text is no longer than a million bytes. -/
import Derived.Test.YtgamlhhchagnaaaAByte
import Derived.Lib.AppendStr
namespace Go.Proofs.Ytgamlhhchagnaaa
open Go Go.RowKit

/-- The list of bytes that is printed so far, and the part that is looked at. -/
structure St (B : Nat) (w0 : World) (g : Nat) (N T : ByteArray) (w : World) (v : Value) (t : Bs) : Prop where
  two : Two2 B w0 w (.slice none 0 0) v [] t
  blk : w.heap[g]? = some (.cells #[.string N, .string T] 33 (0, 0))
theorem own_blk {w : World} {B e s n g : Nat} {v : Value} {xs : List Value} {cs : Array Value} {t : TypeId} (h : w.ownsRow B e s v n xs) (hg : w.heap[g]? = some (.cells cs t (0, 0))) (hne : e ≠ t) : some g ≠ v.ownBlock := by
  rcases h.2 with ⟨rfl, _⟩ | ⟨g', cap, cur, rfl, _, hh, _⟩
  · simp [Value.ownBlock]
  · simp only [Value.ownBlock, ne_eq, Option.some.injEq]
    rintro rfl
    rw [hh] at hg
    injection hg with hg
    injection hg with _ ht
    exact hne ht
theorem St.cs {B : Nat} {w0 : World} {g : Nat} {N T : ByteArray} {w : World} {v : Value} {t : Bs} (h : St B w0 g N T w v t) : w.cell? ⟨g, 0, none⟩ = some (.string N) ∧ w.cell? ⟨g, 1, none⟩ = some (.string T) := by
  constructor
  · rw [cell_of_row w g 0 _ 33 (0, 0) h.blk]; rfl
  · rw [cell_of_row w g 1 _ 33 (0, 0) h.blk]; rfl
theorem St.grown {B : Nat} {w0 : World} {g : Nat} {N T : ByteArray} {w w' : World} {v v' : Value} {t t' : Bs} (h : St B w0 g N T w v t) (h2 : Two2 B w0 w' (.slice none 0 0) v' [] t') (hg : w.grownBy w' v.ownBlock) : St B w0 g N T w' v' t' :=
  ⟨h2, (hg.block g (Array.getElem?_eq_some_iff.1 h.blk).1 (own_blk h.two.text h.blk (by decide))).trans h.blk⟩
theorem St.str {B : Nat} {w0 : World} {g : Nat} {N T : ByteArray} {w w' : World} {v v' : Value} {t : Bs} {s : ByteArray} (u : Bs) (hu : s.data.toList = u) (h : St B w0 g N T w v t)
    (ho : w'.ownsRow B 5 1 v' (t.length + s.size) (byteCells t ++ Lib.strCells s)) (hg : w.grownBy w' v.ownBlock) : St B w0 g N T w' v' (t ++ u) := by
  have e : s.size = u.length := by rw [← len_data, hu]
  rw [Lib.strCells_eq, hu, e] at ho
  exact h.grown (h.two.bytes u ho hg) hg
theorem St.alloc {B : Nat} {w0 : World} {g : Nat} {N T : ByteArray} {w : World} {v : Value} {t : Bs} (h : St B w0 g N T w v t) (o : Obj) : St B w0 g N T (w.alloc o) v t :=
  ⟨h.two.alloc o, (Below.heap_alloc w o g (Array.getElem?_eq_some_iff.1 h.blk).1).trans h.blk⟩
theorem St.one {B : Nat} {w0 : World} {g : Nat} {N T : ByteArray} {w w' : World} {v v' : Value} {t : Bs} {b : UInt8} (h : St B w0 g N T w v t)
    (ho : w'.ownsRow B 5 1 v' (t.length + 1) (byteCells t ++ [.int .u8 b.toNat])) (hg : w.grownBy w' v.ownBlock) : St B w0 g N T w' v' (t ++ [b]) :=
  h.grown (h.two.bytes [b] ho hg) hg
theorem conv_ne {w : World} {B : Nat} {v : Value} {t : Bs} (h : w.ownsRow B 5 1 v t.length (byteCells t)) (h0 : t ≠ []) : (convert 42 9 v).run Try.prog w = .ok (.string ⟨t.toArray⟩) w := by
  rcases text_form h with ⟨_, e⟩ | ⟨g, cap, rfl, _⟩
  · exact absurd e h0
  · exact text_conv h
theorem take_pt {ps : List Pt} {k : Nat} {p : Pt} (h : ps[k]? = some p) : (ps.take (k + 1)).flatMap prP = (ps.take k).flatMap prP ++ prP p := by
  obtain ⟨hk, e⟩ := List.getElem?_eq_some_iff.1 h
  rw [List.take_succ_eq_append_getElem hk, e]; simp
theorem take_by (T : ByteArray) (j : Nat) (h : j < T.size) : (T.data.toList.take (j + 1)).flatMap prB = (T.data.toList.take j).flatMap prB ++ prB T[j] := by
  have e : T.data.toList.take (j + 1) = T.data.toList.take j ++ [T[j]] := by
    rw [List.take_succ_eq_append_getElem (by simpa using h)]; rfl
  rw [e]; simp
theorem print_no (A : Option Addr) (n c : Nat) (ps : List Pt) (w : World) (h : Rd w.heap.size w A n ps) (hmax : n ≤ 1000000) (hl : ∀ p ∈ ps, p.1.length ≤ 1000000) (hm : may false ps = false) :
    Calls Try.prog 8 #[.slice A n c] w fun e w' => e = .returned (.tuple #[.string ⟨#[]⟩, .int .i64 5]) ∧ Below w.heap.size w w' := by
  have K := Lib.hid (may_any A n c ps w h hmax hl)
  rw [hm] at K
  clear h hm hl
  go_enter Try.func8, Try.ntmps8
  go_wp2_with (go_at_call 10; ((with_reducible refine (K.out).mono ?_)); rintro e w1 ⟨rfl, hb⟩)
  go_ret2
  exact ⟨rfl, hb⟩
theorem ret_so {a b : ByteArray} {x : Int} (h : a = b) : Ending.returned (.tuple #[.string a, .int .i64 x]) = .returned (.tuple #[.string b, .int .i64 x]) := by rw [h]
theorem print_len (ps : List Pt) (k : Nat) : (34 :: (ps.take k).flatMap prP).length ≤ (print ps).length := by
  unfold print
  have e : ps = ps.take k ++ ps.drop k := (List.take_append_drop k ps).symm
  have : (ps.flatMap prP).length = ((ps.take k).flatMap prP).length + ((ps.drop k).flatMap prP).length := by
    rw [← List.length_append, ← List.flatMap_append, List.take_append_drop]
  simp only [List.length_cons, List.length_append]; omega
theorem part_len {ps : List Pt} {k : Nat} {p : Pt} (h : ps[k]? = some p) : (34 :: (ps.take k).flatMap prP).length + (prV p.1).length + (p.2.flatMap prB).length ≤ (print ps).length := by
  have h1 := print_len ps (k + 1)
  rw [take_pt h] at h1
  have e : prP p = prV p.1 ++ p.2.flatMap prB := rfl
  rw [e] at h1
  simp only [List.length_cons, List.length_append] at h1 ⊢; omega
theorem sub_len (l : Bs) (j : Nat) : ((l.take j).flatMap prB).length ≤ (l.flatMap prB).length := by
  have : (l.flatMap prB).length = ((l.take j).flatMap prB).length + ((l.drop j).flatMap prB).length := by
    rw [← List.length_append, ← List.flatMap_append, List.take_append_drop]
  omega
set_option maxRecDepth 100000 in
set_option maxHeartbeats 2000000 in
theorem print_yes (A : Option Addr) (n c : Nat) (ps : List Pt) (w : World) (h : Rd w.heap.size w A n ps) (hmax : n ≤ 1000000) (hl : ∀ p ∈ ps, p.1.length ≤ 1000000) (hl2 : ∀ p ∈ ps, p.2.length ≤ 1000000) (hp : (print ps).length ≤ 1000000) (hm : may false ps = true) :
    Calls Try.prog 8 #[.slice A n c] w fun e w' => e = .returned (.tuple #[.string ⟨(print ps).toArray⟩, .int .i64 0]) ∧ Below w.heap.size w w' := by
  have K := Lib.hid (may_any A n c ps w h hmax hl)
  rw [hm] at K
  obtain ⟨R, hR⟩ : ∃ R : ByteArray, R = ⟨(print ps).toArray⟩ := ⟨_, rfl⟩
  rw [← hR]
  have HRes := Lib.hid hR
  have HR := Lib.hid h
  have HN := Lib.hid h.1
  have HL := Lib.hid hl
  have HL2 := Lib.hid hl2
  have HP := Lib.hid hp
  obtain ⟨j0, hj0, hy0, hy1, hy2⟩ := info_parts info5
  clear h hm hl hl2 hR hp
  go_enter Try.func8, Try.ntmps8
  go_wp2_with (go_at_call 10; ((with_reducible refine (K.out).mono ?_)); rintro e w1 ⟨rfl, hb1⟩)
  have hS : Two2 w.heap.size w (w1.alloc (.cells #[.int .u8 34] 5)) (.slice none 0 0) (.slice (some ⟨w1.heap.size, 0, none⟩) 1 1) [] [34] :=
    ⟨World.ownsRow_nil _ _ _ _, World.ownsRow_lit w1 #[.int .u8 34] 1 hb1.size (by decide) rfl, hb1.alloc hb1.size _, by have := hb1.size; simp; omega⟩
  have HS := Lib.hid hS
  clear hS
  go_loopw [4, 14] (fun v i wr => ∃ k : Nat, k ≤ n ∧ i = .int .i64 k ∧ Two2 w.heap.size w wr (.slice none 0 0) v [] (34 :: (ps.take k).flatMap prP)) (fun _ i _ => n - (intOf i).toNat)
  case atStart => exact ⟨0, by omega, rfl, HS.out⟩
  case round =>
    obtain ⟨k, hk, rfl, hT⟩ := hrel
    have HT := Lib.hid hT
    clear hT
    by_cases a : k < n
    · obtain ⟨ad, rfl, hr⟩ := HR.out.2 (by omega)
      obtain ⟨p, hp⟩ : ∃ p, ps[k]? = some p := ⟨_, List.getElem?_eq_getElem (by have := HN.out; omega)⟩
      obtain ⟨c0, c1⟩ := (hr.keep HT.out.below).at_ hp
      have hq := part_len hp
      have hnx := take_pt hp
      have HPm := Lib.hid (List.mem_of_getElem? hp)
      obtain ⟨t0, ht0⟩ : ∃ t0, t0 = 34 :: (ps.take k).flatMap prP := ⟨_, rfl⟩
      rw [← ht0] at HT hq
      have hnx2 : 34 :: (ps.take (k + 1)).flatMap prP = t0 ++ prV p.1 ++ p.2.flatMap prB := by rw [hnx, ht0]; unfold prP; simp
      have HX := Lib.hid hnx2
      obtain ⟨N, hN⟩ : ∃ N : ByteArray, N = ⟨p.1.toArray⟩ := ⟨_, rfl⟩
      obtain ⟨T, hT⟩ : ∃ T : ByteArray, T = ⟨p.2.toArray⟩ := ⟨_, rfl⟩
      rw [← hN] at c0
      rw [← hT] at c1
      have HN1 : Hid (N.data.toList = p.1) := Lib.hid (by rw [hN])
      have HT1 : Hid (T.data.toList = p.2) := Lib.hid (by rw [hT])
      have hTs : T.size ≤ 1000000 := by rw [← len_data, HT1.out]; exact HL2.out p HPm.out
      have hNs : N.size ≤ 1000000 := by rw [← len_data, HN1.out]; exact HL.out p HPm.out
      have hp1 := HP.out
      have HQ : Hid (t0.length + (prV p.1).length + (p.2.flatMap prB).length ≤ 1000000) := Lib.hid (by omega)
      have S1 : St w.heap.size w wr.heap.size N T (wr.alloc (.cells #[.string N, .string T] 33)) u4 t0 := ⟨HT.out.alloc _, heap_alloc_new wr _⟩
      have HS1 := Lib.hid S1
      clear hr hp hq hnx ht0 hnx2 S1 hp1
      by_cases e1 : p.1 = []
      · obtain ⟨n1, n2⟩ := tx_nil hN e1
        have HV : Hid (prV p.1 = []) := by apply Lib.hid; rw [e1]; rfl
        clear e1 hN hT
        go_wp2
        go_loopw [4, 33] (fun v i wq => ∃ j : Nat, j ≤ T.size ∧ i = .int .i64 j ∧ St w.heap.size w wr.heap.size N T wq v (t0 ++ prV p.1 ++ (T.data.toList.take j).flatMap prB)) (fun _ i _ => T.size - (intOf i).toNat)
        case atStart => exact ⟨0, by omega, rfl, by rw [HV.out]; simpa using HS1.out⟩
        case round =>
          obtain ⟨j, hj, rfl, hS⟩ := hrel
          have HSj := Lib.hid hS
          clear hS
          obtain ⟨d0, d1⟩ := HSj.out.cs
          have hsub := sub_len T.data.toList j
          by_cases b : j < T.size
          · have K18 := Lib.hid (abyte_any w.heap.size w _ _ _ T[j] (by
              have h1 := HQ.out
              rw [HT1.out] at hsub ⊢
              simp only [List.length_append]; omega) HSj.out.two)
            have HJ := Lib.hid (take_by T j b)
            clear hsub
            go_wp2_with (go_at_call 18; ((with_reducible refine (K18.out).mono ?_)); rintro e w2 ⟨v', rfl, h2, g2⟩)
            go_roundw
            case rel => exact ⟨j + 1, by omega, by go_num, by rw [HJ.out, ← List.append_assoc]; exact HSj.out.grown h2 g2⟩
            case measure => simp [intOf]; omega
          · clear hsub
            go_wp2
            go_roundw
            case rel =>
              refine ⟨k + 1, by omega, by go_num, ?_⟩
              have hz := HSj.out.two
              rw [List.take_of_length_le (by rw [len_data]; omega), HT1.out] at hz
              rw [HX.out]; exact hz
            case measure => simp [intOf]; omega
      · obtain ⟨n1, n2⟩ := tx_some hN e1
        have HV : Hid (prV p.1 = [36, 123] ++ p.1 ++ [125]) := by apply Lib.hid; unfold prV; rw [if_neg e1]; simp
        have hq0 := HQ.out
        have ht0l : t0.length ≤ 1000000 := by omega
        have HNl : Hid (p.1.length = N.size) := Lib.hid (by rw [← HN1.out, len_data])
        clear e1 hN hT hq0
        go_wp2_with (first | (at_builtin; refine Lib.wpList_append_own_string _ rfl (.tmp 21) (.const (.string ⟨#[36, 123]⟩)) 42 9 rfl w.heap.size 5 j0 Try.underlying42 Try.underlying9 hj0 hy0 hy1 hy2 _ _ _ rfl HS1.out.two.text ⟨#[36, 123]⟩ rfl (by unfold maxLen; show t0.length + 2 ≤ _; omega) (by show t0.length + 2 ≤ _; omega) HS1.out.two.size ?_; intro v2 w2 h2 g2 _; have S2 := HS1.out.str [36, 123] rfl h2 g2; obtain ⟨d20, d21⟩ := S2.cs; clear h2 g2) | (at_builtin; refine Lib.wpList_append_own_string _ rfl (.tmp 23) (.tmp 25) 42 9 rfl w.heap.size 5 j0 Try.underlying42 Try.underlying9 hj0 hy0 hy1 hy2 _ _ _ rfl S2.two.text N rfl (by unfold maxLen; simp; omega) (by simp; omega) S2.two.size ?_; intro v3 w3 h3 g3 _; have S3 := S2.str p.1 HN1.out h3 g3; obtain ⟨d30, d31⟩ := S3.cs; clear h3 g3) | (at_builtin; refine wpList_append_own _ rfl (.tmp 27) (.tmp 28) 42 rfl w.heap.size 5 j0 (.int .u8 0) 1 1 Try.underlying42 hj0 hy0 hy1 hy2 rfl (by decide) _ _ _ rfl (S3.two.text.alloc _) ⟨w3.heap.size, 0, none⟩ 1 1 [.int .u8 125] rfl rfl (fun j u hu => new_cells w3 5 #[.int .u8 125] j u hu) (one_one _) (by unfold maxLen; rw [List.length_append, List.length_append, HNl.out]; simp; omega) (by rw [List.length_append, List.length_append, HNl.out]; simp; omega) (S3.alloc _).two.size ?_; intro v4 w4 h4 g4 _; have S4 := (S3.alloc _).one (b := 125) h4 g4; obtain ⟨d40, d41⟩ := S4.cs; clear h4 g4))
        go_loopw [4, 33] (fun v i wq => ∃ j : Nat, j ≤ T.size ∧ i = .int .i64 j ∧ St w.heap.size w wr.heap.size N T wq v (t0 ++ prV p.1 ++ (T.data.toList.take j).flatMap prB)) (fun _ i _ => T.size - (intOf i).toNat)
        case atStart => exact ⟨0, by omega, rfl, by rw [HV.out]; simpa using S4⟩
        case round =>
          obtain ⟨j, hj, rfl, hS⟩ := hrel
          have HSj := Lib.hid hS
          clear hS
          obtain ⟨d0, d1⟩ := HSj.out.cs
          have hsub := sub_len T.data.toList j
          by_cases b : j < T.size
          · have K18 := Lib.hid (abyte_any w.heap.size w _ _ _ T[j] (by
              have h1 := HQ.out
              rw [HT1.out] at hsub ⊢
              simp only [List.length_append]; omega) HSj.out.two)
            have HJ := Lib.hid (take_by T j b)
            clear hsub
            go_wp2_with (go_at_call 18; ((with_reducible refine (K18.out).mono ?_)); rintro e w2 ⟨v', rfl, h2, g2⟩)
            go_roundw
            case rel => exact ⟨j + 1, by omega, by go_num, by rw [HJ.out, ← List.append_assoc]; exact HSj.out.grown h2 g2⟩
            case measure => simp [intOf]; omega
          · clear hsub
            go_wp2
            go_roundw
            case rel =>
              refine ⟨k + 1, by omega, by go_num, ?_⟩
              have hz := HSj.out.two
              rw [List.take_of_length_le (by rw [len_data]; omega), HT1.out] at hz
              rw [HX.out]; exact hz
            case measure => simp [intOf]; omega
    · have HX : Hid (print ps = (34 :: (ps.take k).flatMap prP) ++ [34]) := by
        apply Lib.hid; rw [List.take_of_length_le (by have := HN.out; omega)]; rfl
      have hx := print_len ps k
      have hp1 := HP.out
      obtain ⟨t0, ht0⟩ : ∃ t0, t0 = 34 :: (ps.take k).flatMap prP := ⟨_, rfl⟩
      rw [← ht0] at HT HX hx
      have hx0 : t0.length ≤ 1000000 := by omega
      clear hx ht0 hp1
      go_wp2_with (at_builtin; refine wpList_append_own _ rfl (.tmp 44) (.tmp 45) 42 rfl w.heap.size 5 j0 (.int .u8 0) 1 1 Try.underlying42 hj0 hy0 hy1 hy2 rfl (by decide) _ _ _ rfl (HT.out.text.alloc _) ⟨wr.heap.size, 0, none⟩ 1 1 [.int .u8 34] rfl rfl (fun j u hu => new_cells wr 5 #[.int .u8 34] j u hu) (one_one _) (by unfold maxLen; omega) (by omega) (HT.out.alloc _).size ?_; intro v2 w3 hown' hgrow _; have H3 := (HT.out.alloc _).bytes [34] hown' hgrow; have hcv := conv_ne H3.text (by simp); clear hown' hgrow)
      go_ret2
      exact ⟨ret_so (by rw [HRes.out, HX.out]), H3.below⟩
end Go.Proofs.Ytgamlhhchagnaaa
