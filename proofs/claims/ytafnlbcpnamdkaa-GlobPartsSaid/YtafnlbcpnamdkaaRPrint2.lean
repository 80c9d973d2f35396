/- The document's own text of pieces, the whole: its contract, for up to 80 pieces of up to 40 spans that may be. -/
import Derived.Test.YtafnlbcpnamdkaaRPrint
namespace Go.Proofs.Ytafnlbcpnamdkaa
open Go Go.RowKit

theorem one_byte2 (w : World) (o : Obj) (x : Int) (c : UInt8) (e : (c.toNat : Int) = x) :
    (convert 41 9 (.slice (some ⟨w.heap.size + 1, 0, none⟩) 1 1)).run Try.prog ((w.alloc o).alloc (.cells #[.int .u8 x] 5)) = .ok (.string ⟨#[c]⟩) ((w.alloc o).alloc (.cells #[.int .u8 x] 5)) := by
  have h := one_byte (w.alloc o) x c e
  have e2 : (w.alloc o).heap.size = w.heap.size + 1 := by simp
  rw [e2] at h; exact h
theorem textG_len (g : Gl) (h : g.spans.length ≤ 40) : (textG g).length ≤ 202 := by
  unfold textG
  have := esc_len sgP g.byte
  have := items_len g.spans
  split
  · simp
  · split
    · simp
    · split
      · omega
      · rw [List.length_cons, List.length_append]; simp only [List.length_singleton]; omega
theorem text_len : ∀ (gs : List Gl), (∀ g ∈ gs, g.spans.length ≤ 40) → (text gs).length ≤ 202 * gs.length
  | [], _ => by simp [text]
  | g :: r, h => by
    have h1 := textG_len g (h g (by simp))
    have h2 := text_len r (fun x hx => h x (by simp [hx]))
    have e : text (g :: r) = textG g ++ text r := by simp [text]
    rw [e, List.length_append, List.length_cons]; omega
theorem okG_kinds {g : Gl} (h : okG g = true) : g.kind = 0 ∨ g.kind = 1 ∨ g.kind = 2 ∨ (g.kind = 3 ∧ g.spans.all okS = true) := by
  unfold okG at h
  split at h
  · rename_i h0; exact .inl h0
  · split at h
    · rename_i h1; rcases h1 with h1 | h1
      · exact .inr (.inl h1)
      · exact .inr (.inr (.inl h1))
    · split at h
      · rename_i h3
        simp only [Bool.and_eq_true] at h
        exact .inr (.inr (.inr ⟨h3, h.2.1⟩))
      · cases h
set_option maxHeartbeats 4000000 in
theorem rprint_any (A : Option Addr) (n c : Nat) (gs : List Gl) (w : World) (h : RdG w.heap.size w A n gs) (hs : smallG gs = true) (hm : may gs = true) :
    Calls Try.prog 12 #[.slice A n c] w fun e w' => e = .returned (.string ⟨(text gs).toArray⟩) ∧ Below w.heap.size w w' := by
  obtain ⟨hs1, hs2⟩ := small_n hs
  have hn80 : n ≤ 80 := by have := h.1; omega
  obtain ⟨R, hR⟩ : ∃ R : ByteArray, R = ⟨(text gs).toArray⟩ := ⟨_, rfl⟩
  rw [← hR]
  have HRes := Lib.hid hR
  have HR := Lib.hid h
  have HN := Lib.hid h.1
  have HS2 := Lib.hid hs2
  have HM := Lib.hid hm
  clear h hR hs hs1 hs2 hm
  go_enter Try.func12, Try.ntmps12
  go_wp2
  go_loopw [3, 4] (fun o i wr => ∃ (k : Nat) (S : ByteArray), k ≤ n ∧ i = .int .i64 k ∧ o = .string S ∧ S.data.toList = text (gs.take k) ∧ Below w.heap.size w wr) (fun _ i _ => n - (intOf i).toNat)
  case atStart => exact ⟨0, ⟨#[]⟩, by omega, rfl, rfl, rfl, Below.refl _ _⟩
  case round =>
    obtain ⟨k, S, hk, rfl, rfl, hS, hb⟩ := hrel
    have hSl : S.size ≤ 20000 := st_size hS (by
      have := text_len (gs.take k) (fun g hg => HS2.out g (List.mem_of_mem_take hg))
      have h2 : (gs.take k).length ≤ 80 := (by rw [List.length_take]; omega)
      omega)
    have HS := Lib.hid hS
    clear hS
    by_cases a : k < n
    · obtain ⟨g, hg⟩ := get_of_lt HN.out a
      have hok : okG g = true := List.all_eq_true.1 HM.out g (List.mem_of_getElem? hg)
      have hsp := HS2.out g (List.mem_of_getElem? hg)
      obtain ⟨ad, A', c', rfl, ⟨c0, c1, c2⟩, hrs⟩ := (HR.out.keep hb).at_ hg
      have HF := Lib.hid (text_take hg)
      have hk4 := okG_kinds hok
      obtain ⟨kind, byte, spans⟩ := g
      dsimp only at c0 c1 c2 hrs hk4 hsp
      have HRS : Hid (∀ w', Below wr.heap.size wr w' → RdS w'.heap.size w' A' spans) := Lib.hid fun w' hb' => ((hrs.up hb.size).keep hb').up hb'.size
      obtain ⟨m, hmm⟩ : ∃ m, m = spans.length := ⟨_, rfl⟩
      have HMM := Lib.hid hmm
      rw [← hmm] at c2 hsp
      clear hg hok hrs hmm
      rcases hk4 with rfl | rfl | rfl | ⟨rfl, hall⟩
      · have hone := fun (W : World) (o : Obj) => one_byte2 W o (byte.toNat : Int) byte rfl
        have hT : textG ⟨0, byte, spans⟩ = esc sgP byte := by simp [textG]
        by_cases h1 : byte = 42
        · have g1 : ((byte.toNat : Int) == 42) = true := byte_eq (n := 42) h1 (by omega)
          have HE : Hid (textG ⟨0, byte, spans⟩ = [92] ++ [byte]) := by apply Lib.hid; rw [hT, h1]; rfl
          clear h1 hT
          go_wp2
          go_roundw
          case rel => exact ⟨k + 1, _, by omega, by go_num, rfl, by rw [HF.out, HE.out, ← List.append_assoc]; exact cat_data _ _ _ _ (cat_data _ _ _ _ HS.out (rfl : (⟨#[92]⟩ : ByteArray).data.toList = [92])) (rfl : (⟨#[byte]⟩ : ByteArray).data.toList = [byte]), (hb.alloc hb.size _).alloc (by simp; have := hb.size; omega) _⟩
          case measure => simp [intOf]; omega
        have f1 : ((byte.toNat : Int) == 42) = false := byte_ne (n := 42) h1 (by omega)
        by_cases h2 : byte = 63
        · have g1 : ((byte.toNat : Int) == 63) = true := byte_eq (n := 63) h2 (by omega)
          have HE : Hid (textG ⟨0, byte, spans⟩ = [92] ++ [byte]) := by apply Lib.hid; rw [hT, h2]; rfl
          clear h1 h2 hT
          go_wp2
          go_roundw
          case rel => exact ⟨k + 1, _, by omega, by go_num, rfl, by rw [HF.out, HE.out, ← List.append_assoc]; exact cat_data _ _ _ _ (cat_data _ _ _ _ HS.out (rfl : (⟨#[92]⟩ : ByteArray).data.toList = [92])) (rfl : (⟨#[byte]⟩ : ByteArray).data.toList = [byte]), (hb.alloc hb.size _).alloc (by simp; have := hb.size; omega) _⟩
          case measure => simp [intOf]; omega
        have f2 : ((byte.toNat : Int) == 63) = false := byte_ne (n := 63) h2 (by omega)
        by_cases h3 : byte = 91
        · have g1 : ((byte.toNat : Int) == 91) = true := byte_eq (n := 91) h3 (by omega)
          have HE : Hid (textG ⟨0, byte, spans⟩ = [92] ++ [byte]) := by apply Lib.hid; rw [hT, h3]; rfl
          clear h1 h2 h3 hT
          go_wp2
          go_roundw
          case rel => exact ⟨k + 1, _, by omega, by go_num, rfl, by rw [HF.out, HE.out, ← List.append_assoc]; exact cat_data _ _ _ _ (cat_data _ _ _ _ HS.out (rfl : (⟨#[92]⟩ : ByteArray).data.toList = [92])) (rfl : (⟨#[byte]⟩ : ByteArray).data.toList = [byte]), (hb.alloc hb.size _).alloc (by simp; have := hb.size; omega) _⟩
          case measure => simp [intOf]; omega
        have f3 : ((byte.toNat : Int) == 91) = false := byte_ne (n := 91) h3 (by omega)
        by_cases h4 : byte = 92
        · have g1 : ((byte.toNat : Int) == 92) = true := byte_eq (n := 92) h4 (by omega)
          have HE : Hid (textG ⟨0, byte, spans⟩ = [92] ++ [byte]) := by apply Lib.hid; rw [hT, h4]; rfl
          clear h1 h2 h3 h4 hT
          go_wp2
          go_roundw
          case rel => exact ⟨k + 1, _, by omega, by go_num, rfl, by rw [HF.out, HE.out, ← List.append_assoc]; exact cat_data _ _ _ _ (cat_data _ _ _ _ HS.out (rfl : (⟨#[92]⟩ : ByteArray).data.toList = [92])) (rfl : (⟨#[byte]⟩ : ByteArray).data.toList = [byte]), (hb.alloc hb.size _).alloc (by simp; have := hb.size; omega) _⟩
          case measure => simp [intOf]; omega
        have f4 : ((byte.toNat : Int) == 92) = false := byte_ne (n := 92) h4 (by omega)
        have HE : Hid (textG ⟨0, byte, spans⟩ = [byte]) := by apply Lib.hid; rw [hT]; unfold esc; rw [if_neg (by simp [sgP, h1, h2, h3, h4])]
        clear h1 h2 h3 h4 hT
        go_wp2
        go_roundw
        case rel => exact ⟨k + 1, _, by omega, by go_num, rfl, by rw [HF.out, HE.out]; exact cat_data _ _ _ _ HS.out (rfl : (⟨#[byte]⟩ : ByteArray).data.toList = [byte]), (hb.alloc hb.size _).alloc (by simp; have := hb.size; omega) _⟩
        case measure => simp [intOf]; omega
      · have HE : Hid (textG ⟨1, byte, spans⟩ = [63]) := by apply Lib.hid; simp [textG]
        go_wp2
        go_roundw
        case rel => exact ⟨k + 1, _, by omega, by go_num, rfl, by rw [HF.out, HE.out]; exact cat_data _ _ _ _ HS.out (rfl : (⟨#[63]⟩ : ByteArray).data.toList = [63]), hb.alloc hb.size _⟩
        case measure => simp [intOf]; omega
      · have HE : Hid (textG ⟨2, byte, spans⟩ = [42]) := by apply Lib.hid; simp [textG]
        go_wp2
        go_roundw
        case rel => exact ⟨k + 1, _, by omega, by go_num, rfl, by rw [HF.out, HE.out]; exact cat_data _ _ _ _ HS.out (rfl : (⟨#[42]⟩ : ByteArray).data.toList = [42]), hb.alloc hb.size _⟩
        case measure => simp [intOf]; omega
      · have hE : textG ⟨3, byte, spans⟩ = [91] ++ spans.flatMap itemT ++ [93] := by simp [textG]
        obtain ⟨X, hX⟩ : ∃ X : ByteArray, X = ⟨(spans.flatMap itemT).toArray⟩ := ⟨_, rfl⟩
        have hXl : X.size ≤ 200 := st_size (l := spans.flatMap itemT) (by rw [hX]) (by have := items_len spans; have := HMM.out; omega)
        have HX : Hid (X.data.toList = spans.flatMap itemT) := Lib.hid (by rw [hX])
        have K := fun w' hb' => items_any A' m c' spans HMM.out w' (HRS.out w' hb') (by omega) hall
        rw [← hX] at K
        have K := Lib.hid K
        have HE := Lib.hid hE
        clear hX hE hall
        go_wp2_with (go_at_call 22; ((with_reducible refine (K.out _ ((Below.refl _ _).alloc (Nat.le_refl _) _)).mono ?_)); rintro e w1 ⟨rfl, hb1⟩; obtain ⟨hc, hf⟩ := bcell hb1; have hz := size_le hb1; have HB1 := Lib.hid hb1; clear hb1)
        go_roundw
        case rel => exact ⟨k + 1, _, by omega, by go_num, rfl, by rw [HF.out, HE.out]; have := cat_data _ _ _ _ (cat_data _ _ _ _ (cat_data _ _ _ _ HS.out (rfl : (⟨#[91]⟩ : ByteArray).data.toList = [91])) HX.out) (rfl : (⟨#[93]⟩ : ByteArray).data.toList = [93]); simpa using this, hb.trans ((alloc_below HB1.out).mono hb.size)⟩
        case measure => simp [intOf]; omega
    · have HX : Hid (gs.take k = gs) := by
        apply Lib.hid; rw [List.take_of_length_le (by have := HN.out; omega)]
      go_wp2
      go_ret
      exact ⟨ret_st (by rw [HRes.out]; exact ba_eq _ _ (by rw [HS.out, HX.out])), hb⟩
end Go.Proofs.Ytafnlbcpnamdkaa
