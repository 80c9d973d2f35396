/- The walk of the statement QuoteGoes, for every two texts. -/
import Derived.Test.YtgamlhhchagnaaaLawAny
namespace Go.Proofs.Ytgamlhhchagnaaa
open Go Go.RowKit

def TrueEnd (w : World) (e : Ending) (w' : World) : Prop := e = .returned (.bool true) ∧ Below w.heap.size w w'
theorem goes_long (s t : ByteArray) (h : 80 < s.size ∨ 30 < t.size) (w : World) : Calls Try.prog 5 #[.string s, .string t] w (TrueEnd w) := by
  have KA := Lib.hid (awake_any w)
  have h' : 80 < s.size ∨ (s.size ≤ 80 ∧ 30 < t.size) := by omega
  clear h
  rcases h' with h | ⟨h, h2⟩
  all_goals
    go_enter Try.func5, Try.ntmps5
    go_wp2_with (go_at_call 6; ((with_reducible refine (KA.out).mono ?_)); rintro e w0 ⟨rfl, hb0⟩)
    go_ret
    exact ⟨rfl, hb0⟩
theorem goes_read (s t : ByteArray) (h1 : s.size ≤ 80) (h2 : t.size ≤ 30) (ps : List Pt) (m : Nat) (h : parse s.data.toList = (some ps, m)) (w : World) : Calls Try.prog 5 #[.string s, .string t] w (TrueEnd w) := by
  have hb := parse_bd s.data.toList
  rw [h, len_data] at hb
  obtain ⟨b1, b2⟩ := hb
  obtain ⟨b2, b3⟩ := b2 rfl
  have hlt : m - 1 < s.size := by omega
  have hx : ((s[m - 1].toNat : Int) == 34) = true := by
    rw [List.getElem?_eq_getElem (by rw [len_data]; exact hlt)] at b3
    injection b3 with b3
    have e34 : s[m - 1] = 34 := by
      rw [← b3]; simp; rfl
    exact byte_eq (n := 34) e34 (by omega)
  obtain ⟨d, rfl⟩ : ∃ d, m = d + 1 := ⟨m - 1, by omega⟩
  have KA := Lib.hid (awake_any w)
  have K11 : Hid (∀ w, Calls Try.prog 11 #[.string s] w fun e w' => ∃ A c, e = .returned (.tuple #[.slice A ps.length c, .int .i64 ((d : Int) + 1), .int .i64 0]) ∧ Below w.heap.size w w') :=
    Lib.hid fun w => (parse_read s (by omega) ps (d + 1) h w).mono fun e w' ⟨A, c, he, _, hb⟩ => ⟨A, c, he, hb⟩
  simp only [Nat.add_sub_cancel] at hlt hx
  clear h b3
  go_enter Try.func5, Try.ntmps5
  go_wp2_with (first | (go_at_call 6; ((with_reducible refine (KA.out).mono ?_)); rintro e w0 ⟨rfl, hb0⟩) | (go_at_call 11; ((with_reducible refine (K11.out _).mono ?_)); rintro e w1 ⟨A, c, rfl, hb1⟩))
  go_ret
  exact ⟨rfl, hb0.trans (hb1.mono hb0.size)⟩
def endsB : List ByteArray := ends.map fun l => ⟨l.toArray⟩
def arrB : Array Value := #[.string ⟨#[34]⟩, .string ⟨#[110, 34]⟩, .string ⟨#[48, 48, 34]⟩, .string ⟨#[48, 34]⟩, .string ⟨#[123, 97, 125, 34]⟩, .string ⟨#[97, 125, 34]⟩, .string ⟨#[125, 34]⟩, .string ⟨#[34, 34]⟩]
theorem arr_at : ∀ k : Nat, k < 8 → ∃ l : Bs, ends[k]? = some l ∧ l.length ≤ 5 ∧ arrB[k]? = some (.string ⟨l.toArray⟩)
  | 0, _ => ⟨_, rfl, by decide, rfl⟩
  | 1, _ => ⟨_, rfl, by decide, rfl⟩
  | 2, _ => ⟨_, rfl, by decide, rfl⟩
  | 3, _ => ⟨_, rfl, by decide, rfl⟩
  | 4, _ => ⟨_, rfl, by decide, rfl⟩
  | 5, _ => ⟨_, rfl, by decide, rfl⟩
  | 6, _ => ⟨_, rfl, by decide, rfl⟩
  | 7, _ => ⟨_, rfl, by decide, rfl⟩
  | k + 8, h => by omega
def LoopG (W : World) (i0 : Nat) (i : Value) (wr : World) : Prop := ∃ k : Nat, k ≤ i0 ∧ i = .int .i64 k ∧ Below W.heap.size W wr
theorem ext_all (s : ByteArray) : s.extract 0 s.size = s := by
  apply ByteArray.ext
  apply Array.ext'
  rw [Lib.extract_data, List.drop_zero, Nat.sub_zero, List.take_of_length_le (by rw [len_data]; exact Nat.le_refl _)]
set_option maxRecDepth 100000 in
set_option maxHeartbeats 2000000 in
theorem goes_none (s t : ByteArray) (h1 : s.size ≤ 80) (h2 : t.size ≤ 30) (m : Nat) (h : parse s.data.toList = (none, m)) (w : World) : Calls Try.prog 5 #[.string s, .string t] w (TrueEnd w) := by
  have hb := (parse_bd s.data.toList).1
  rw [h, len_data] at hb
  obtain ⟨e, he, hg⟩ := parse_ends s.data.toList (by rw [h])
  rw [h] at hg
  obtain ⟨i0, hi0, hei⟩ := List.getElem_of_mem he
  have hi8 : i0 < 8 := hi0
  have HG : Hid (ends[i0]? = some e ∧ (parse (s.data.toList.take m ++ e)).1.isSome) := Lib.hid ⟨by rw [List.getElem?_eq_getElem hi0, hei], hg⟩
  have KA := Lib.hid (awake_any w)
  have K11 : Hid (∀ w, Calls Try.prog 11 #[.string s] w (NoRead w m)) := Lib.hid (parse_noread s (by omega) m h)
  have KP : Hid (∀ (l : Bs) (hl : l.length ≤ 5) (w : World), Calls Try.prog 11 #[.string (s.extract 0 m ++ ⟨l.toArray⟩)] w (PostP w.heap.size w (parse (s.data.toList.take m ++ l)))) := Lib.hid fun l hl w => by
    have e1 : (s.extract 0 m).data.toList = s.data.toList.take m := by rw [Lib.extract_data]; rfl
    have e2 : (s.extract 0 m ++ ⟨l.toArray⟩).data.toList = s.data.toList.take m ++ l := cat_data _ _ _ _ e1 rfl
    rw [← e2]
    refine parse_any _ ?_ w
    rw [← len_data, e2, List.length_append, List.length_take]; omega
  have hext := ext_size s 0 m hb
  clear hei hi0 he hg
  by_cases hm : m < s.size
  · have K11m : Hid (∀ w, Calls Try.prog 11 #[.string (s ++ t)] w (NoRead w m)) := by
      apply Lib.hid
      have e2 : (s ++ t).data.toList = s.data.toList ++ t.data.toList := cat_data _ _ _ _ rfl rfl
      refine parse_noread (s ++ t) ?_ m ?_
      · rw [← len_data, e2, List.length_append, len_data, len_data]; omega
      · rw [e2, parse_more _ _ (by rw [h]) (by rw [h, len_data]; exact hm), h]
    clear h
    go_enter Try.func5, Try.ntmps5
    go_wp2_with (first | (go_at_call 6; ((with_reducible refine (KA.out).mono ?_)); rintro e w0 ⟨rfl, hb0⟩) | (go_at_call 11; (first | ((with_reducible refine (K11.out _).mono ?_); rintro e w1 ⟨A, c, rfl, hb1⟩) | ((with_reducible refine (K11m.out _).mono ?_); rintro e w2 ⟨A', c', rfl, hb2⟩))))
    have hW : Below w.heap.size w w2 := ((hb0.trans (hb1.mono hb0.size)).trans (hb2.mono (hb0.trans (hb1.mono hb0.size)).size)).mono (Nat.le_refl _)
    have HW := Lib.hid hW
    clear hW
    go_loopw [82] (fun i wr => LoopG (w2.alloc (.cells arrB 9)) i0 i wr) (fun i _ => i0 + 1 - (intOf i).toNat)
    case atStart => exact ⟨0, by omega, rfl, Below.refl _ _⟩
    case round =>
      obtain ⟨k, hk, rfl, hbr⟩ := hrel
      obtain ⟨l, hl1, hl2, hl3⟩ := arr_at k (by omega)
      have hcell : wr.cell? ⟨w2.heap.size, k, none⟩ = some (.string ⟨l.toArray⟩) := by
        rw [hbr.cell (p := ⟨w2.heap.size, k, none⟩) (by simp), cell_of_row _ _ k arrB 9 (0, 0) (heap_alloc_new w2 _), hl3]
      have KL := KP.out l hl2
      obtain ⟨E, hE⟩ : ∃ E : ByteArray, E = ⟨l.toArray⟩ := ⟨_, rfl⟩
      rw [← hE] at hcell KL
      have hEs : E.size ≤ 5 := by rw [← len_data, hE]; exact hl2
      have hz := HW.out.alloc HW.out.size (.cells arrB 9)
      have hz2 := hz.trans (hbr.mono hz.size)
      have HZ := Lib.hid hz2
      have HBR := Lib.hid hbr
      have hk8 : k < 8 := by omega
      obtain ⟨o, q, hoq⟩ : ∃ o q, parse (s.data.toList.take m ++ l) = (o, q) := ⟨_, _, rfl⟩
      rw [hoq] at KL
      cases o with
      | some ps' =>
        have KS : Hid (∀ w, Calls Try.prog 11 #[.string (s.extract 0 m ++ E)] w (Read w ps' q)) := Lib.hid fun w => (KL w).mono fun e w' hp => postP_read hp
        clear hl1 hl2 hl3 hE hz hz2 hoq KL hbr
        go_wp2_with (go_at_call 11; ((with_reducible refine (KS.out _).mono ?_)); rintro e w5 ⟨A5, c5, rfl, hr5, hb5⟩)
        go_ret
        exact ⟨rfl, HZ.out.trans (hb5.mono HZ.out.size)⟩
      | none =>
        have hki : k + 1 ≤ i0 := by
          rcases Nat.lt_or_ge k i0 with h | h
          · omega
          · obtain rfl : k = i0 := by omega
            obtain ⟨g1, g2⟩ := HG.out
            rw [hl1] at g1
            injection g1 with g1
            rw [← g1, hoq] at g2
            cases g2
        have KN : Hid (∀ w, Calls Try.prog 11 #[.string (s.extract 0 m ++ E)] w (NoRead w q)) := Lib.hid fun w => (KL w).mono fun e w' hp => postP_noread hp
        clear hl1 hl2 hl3 hE hz hz2 hoq KL hbr
        go_wp2_with (go_at_call 11; ((with_reducible refine (KN.out _).mono ?_)); rintro e w5 ⟨A5, c5, rfl, hb5⟩)
        go_roundw
        case rel => exact ⟨k + 1, hki, by go_num, HBR.out.trans (hb5.mono HBR.out.size)⟩
        case measure => simp [intOf]; omega
  · obtain rfl : m = s.size := by omega
    clear h
    go_enter Try.func5, Try.ntmps5
    go_wp2_with (first | (go_at_call 6; ((with_reducible refine (KA.out).mono ?_)); rintro e w0 ⟨rfl, hb0⟩) | (go_at_call 11; ((with_reducible refine (K11.out _).mono ?_); rintro e w1 ⟨A, c, rfl, hb1⟩)))
    have hW : Below w.heap.size w w1 := (hb0.trans (hb1.mono hb0.size)).mono (Nat.le_refl _)
    have HW := Lib.hid hW
    clear hW
    go_loopw [82] (fun i wr => LoopG (w1.alloc (.cells arrB 9)) i0 i wr) (fun i _ => i0 + 1 - (intOf i).toNat)
    case atStart => exact ⟨0, by omega, rfl, Below.refl _ _⟩
    case round =>
      obtain ⟨k, hk, rfl, hbr⟩ := hrel
      obtain ⟨l, hl1, hl2, hl3⟩ := arr_at k (by omega)
      have hcell : wr.cell? ⟨w1.heap.size, k, none⟩ = some (.string ⟨l.toArray⟩) := by
        rw [hbr.cell (p := ⟨w1.heap.size, k, none⟩) (by simp), cell_of_row _ _ k arrB 9 (0, 0) (heap_alloc_new w1 _), hl3]
      have KL := KP.out l hl2
      rw [ext_all] at KL
      obtain ⟨E, hE⟩ : ∃ E : ByteArray, E = ⟨l.toArray⟩ := ⟨_, rfl⟩
      rw [← hE] at hcell KL
      have hEs : E.size ≤ 5 := by rw [← len_data, hE]; exact hl2
      have hz := HW.out.alloc HW.out.size (.cells arrB 9)
      have hz2 := hz.trans (hbr.mono hz.size)
      have HZ := Lib.hid hz2
      have HBR := Lib.hid hbr
      have hk8 : k < 8 := by omega
      obtain ⟨o, q, hoq⟩ : ∃ o q, parse (s.data.toList.take s.size ++ l) = (o, q) := ⟨_, _, rfl⟩
      rw [hoq] at KL
      cases o with
      | some ps' =>
        have KS : Hid (∀ w, Calls Try.prog 11 #[.string (s ++ E)] w (Read w ps' q)) := Lib.hid fun w => (KL w).mono fun e w' hp => postP_read hp
        clear hl1 hl2 hl3 hE hz hz2 hoq KL hbr
        go_wp2_with (go_at_call 11; ((with_reducible refine (KS.out _).mono ?_)); rintro e w5 ⟨A5, c5, rfl, hr5, hb5⟩)
        go_ret
        exact ⟨rfl, HZ.out.trans (hb5.mono HZ.out.size)⟩
      | none =>
        have hki : k + 1 ≤ i0 := by
          rcases Nat.lt_or_ge k i0 with h | h
          · omega
          · obtain rfl : k = i0 := by omega
            obtain ⟨g1, g2⟩ := HG.out
            rw [hl1] at g1
            injection g1 with g1
            rw [← g1, hoq] at g2
            cases g2
        have KN : Hid (∀ w, Calls Try.prog 11 #[.string (s ++ E)] w (NoRead w q)) := Lib.hid fun w => (KL w).mono fun e w' hp => postP_noread hp
        clear hl1 hl2 hl3 hE hz hz2 hoq KL hbr
        go_wp2_with (go_at_call 11; ((with_reducible refine (KN.out _).mono ?_)); rintro e w5 ⟨A5, c5, rfl, hb5⟩)
        go_roundw
        case rel => exact ⟨k + 1, hki, by go_num, HBR.out.trans (hb5.mono HBR.out.size)⟩
        case measure => simp [intOf]; omega
theorem walk_goes (s t : ByteArray) (w : World) : Calls Try.prog 5 #[.string s, .string t] w fun e w' => e = .returned (.bool true) ∧ Below w.heap.size w w' := by
  by_cases h : 80 < s.size ∨ 30 < t.size
  · exact goes_long s t h w
  · obtain ⟨o, m, h2⟩ : ∃ o m, parse s.data.toList = (o, m) := ⟨_, _, rfl⟩
    cases o with
    | none => exact goes_none s t (by omega) (by omega) m h2 w
    | some ps => exact goes_read s t (by omega) (by omega) ps m h2 w
end Go.Proofs.Ytgamlhhchagnaaa
