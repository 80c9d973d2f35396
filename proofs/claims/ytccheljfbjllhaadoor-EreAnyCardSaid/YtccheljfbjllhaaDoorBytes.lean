/- Contracts of the readers of one byte and of one item, of the code and of the document's own answer, for every text of up to a million bytes. -/
import Derived.Test.YtccheljfbjllhaaDoorRows
import Derived.Test.YtccheljfbjllhaaDoorPlain
import Derived.Test.YtccheljfbjllhaaDoorShelf
import Derived.WalkKit
import Derived.WalkSpells
import Derived.WalkLawsBesides
import Derived.Lib.Hide
import Derived.Outline
namespace Go.Proofs.YtccheljfbjllhaaDoor
open Go Go.RowKit

theorem ret_int {k : IntKind} {a b : Int} (h : a = b) : Ending.returned (.int k a) = .returned (.int k b) := by rw [h]
theorem ret_bool {a b : Bool} (h : a = b) : Ending.returned (.bool a) = .returned (.bool b) := by rw [h]
theorem len_data (s : ByteArray) : s.data.toList.length = s.size := Array.length_toList
theorem drop_at (s : ByteArray) (k : Nat) (hk : k < s.size) : s.data.toList.drop k = s[k] :: s.data.toList.drop (k + 1) := by
  rw [List.drop_eq_getElem_cons (i := k) (l := s.data.toList) (by rw [len_data]; exact hk)]
  simp; rfl
theorem drop_end (s : ByteArray) (k : Nat) (hk : ¬ k < s.size) : s.data.toList.drop k = [] := by
  rw [List.drop_eq_nil_iff, len_data]; omega
theorem get_at (s : ByteArray) (k : Nat) (hk : k < s.size) : s.data.toList[k]? = some s[k] := by
  rw [List.getElem?_eq_getElem (by rw [len_data]; exact hk)]; simp; rfl
theorem get_end (s : ByteArray) (k : Nat) (hk : ¬ k < s.size) : s.data.toList[k]? = none := by
  rw [List.getElem?_eq_none]; rw [len_data]; omega
theorem byte_eq {c : UInt8} {n : Nat} (h : c = UInt8.ofNat n) (hn : n < 256) : ((c.toNat : Int) == (n : Int)) = true := by
  subst h; simp [Nat.mod_eq_of_lt hn]
theorem byte_ne {c : UInt8} {n : Nat} (h : c ≠ UInt8.ofNat n) (_ : n < 256) : ((c.toNat : Int) == (n : Int)) = false := by
  rw [Bool.eq_false_iff]
  intro he
  apply h
  have h1 : c.toNat = n := by have := eq_of_beq he; omega
  rw [← h1]; simp
def setI : ByteArray := ⟨#[93, 45, 92]⟩
def setP : ByteArray := ⟨#[42, 63, 91, 92]⟩
/-- A set of bytes, looked up. -/
def Looks (set : ByteArray) (sg : Bs) : Prop := ∀ c : UInt8, (0 ≤ Lib.indexByte set.data.toList c ↔ c ∈ sg) ∧ -1 ≤ Lib.indexByte set.data.toList c ∧ Lib.indexByte set.data.toList c ≤ 255
theorem looksI : Looks setI sgI := all256 _ (by decide +kernel)
theorem looksP : Looks setP sgP := all256 _ (by decide +kernel)
theorem looksE : Looks ⟨#[]⟩ [] := all256 _ (by decide +kernel)
theorem idx_is (set : ByteArray) (c : UInt8) (v : Int) (h : Lib.indexByte set.data.toList c = v) (w : World) :
    Calls Tryd.prog 54 #[.string set, .int .u8 (c.toNat : Nat)] w fun e w' => e = .returned (.int .i64 v) ∧ w = w' :=
  (Tryd.strings_IndexByte set (c.toNat : Nat) w).mono fun e w' ⟨he, hw⟩ => ⟨by rw [he, ← h]; simp, hw.symm⟩
def resB : Res UInt8 → Value
  | .bad q => .tuple #[.int .u8 0, .int .i64 q, .bool false]
  | .ok c q => .tuple #[.int .u8 c.toNat, .int .i64 q, .bool true]
def resR (k : Nat) : Res UInt8 → Value
  | .bad q => .tuple #[.int .u8 0, .int .i64 (-1), .int .i64 q]
  | .ok c q => .tuple #[.int .u8 c.toNat, .int .i64 ((q : Int) - k), .int .i64 0]
theorem resR_ok {c : UInt8} {q k : Nat} {n : Int} (h : (q : Int) - k = n) : resR k (.ok c q) = .tuple #[.int .u8 c.toNat, .int .i64 n, .int .i64 0] := by simp only [resR, h]
set_option maxHeartbeats 1000000 in
theorem ritem_any (s : ByteArray) (k : Nat) (hk : k ≤ s.size) (hs : s.size ≤ 1000000) (w : World) :
    Calls Tryd.prog 83 #[.string s, .int .i64 k] w fun e w' => e = .returned (resR k (rb sgI s.data.toList k)) ∧ w = w' := by
  obtain ⟨R, hR⟩ : ∃ R, R = rb sgI s.data.toList k := ⟨_, rfl⟩
  rw [← hR]
  unfold rb at hR
  by_cases a : k < s.size
  · rw [drop_at s k a] at hR
    dsimp only at hR
    by_cases c92 : s[k] = 92
    · have b92 : ((s[k].toNat : Int) != 92) = false := by
        have := byte_eq (n := 92) c92 (by omega)
        simp only [bne]; simpa using this
      have b93 : ((s[k].toNat : Int) == 93) = false := byte_ne (n := 93) (by rw [c92]; decide) (by omega)
      have b45 : ((s[k].toNat : Int) == 45) = false := byte_ne (n := 45) (by rw [c92]; decide) (by omega)
      rw [if_pos c92] at hR
      by_cases a1 : k + 1 < s.size
      · rw [drop_at s (k + 1) a1] at hR
        have HR := Lib.hid hR
        clear hR c92
        go_enter Tryd.func83, Tryd.ntmps83
        go_wp2
        go_ret3
        rw [HR.out, resR_ok (n := 2) (by omega)]
        exact ⟨rfl, rfl⟩
      · rw [drop_end s (k + 1) a1] at hR
        have HR := Lib.hid hR
        clear hR c92
        go_enter Tryd.func83, Tryd.ntmps83
        go_wp2
        go_ret3
        rw [HR.out]
        exact ⟨rfl, rfl⟩
    · have b92 : ((s[k].toNat : Int) != 92) = true := by
        have := byte_ne (n := 92) c92 (by omega)
        simp only [bne]; simpa using this
      rw [if_neg c92] at hR
      by_cases c93 : s[k] = 93
      · have b93 : ((s[k].toNat : Int) == 93) = true := byte_eq (n := 93) c93 (by omega)
        rw [if_pos (by rw [c93]; decide)] at hR
        have HR := Lib.hid hR
        clear hR c92 c93
        go_enter Tryd.func83, Tryd.ntmps83
        go_wp2
        go_ret3
        rw [HR.out]
        exact ⟨rfl, rfl⟩
      · have b93 : ((s[k].toNat : Int) == 93) = false := byte_ne (n := 93) c93 (by omega)
        by_cases c45 : s[k] = 45
        · have b45 : ((s[k].toNat : Int) == 45) = true := byte_eq (n := 45) c45 (by omega)
          rw [if_pos (by rw [c45]; decide)] at hR
          have HR := Lib.hid hR
          clear hR c92 c93 c45
          go_enter Tryd.func83, Tryd.ntmps83
          go_wp2
          go_ret3
          rw [HR.out]
          exact ⟨rfl, rfl⟩
        · have b45 : ((s[k].toNat : Int) == 45) = false := byte_ne (n := 45) c45 (by omega)
          rw [if_neg (by simp [sgI, c92, c93, c45])] at hR
          have HR := Lib.hid hR
          clear hR c92 c93 c45
          go_enter Tryd.func83, Tryd.ntmps83
          go_wp2
          go_ret3
          rw [HR.out, resR_ok (n := 1) (by omega)]
          exact ⟨rfl, rfl⟩
  · rw [drop_end s k a] at hR
    have HR := Lib.hid hR
    obtain rfl : k = s.size := by omega
    clear hR
    go_enter Tryd.func83, Tryd.ntmps83
    go_wp2
    go_ret3
    rw [HR.out]
    exact ⟨rfl, rfl⟩
end Go.Proofs.YtccheljfbjllhaaDoor
