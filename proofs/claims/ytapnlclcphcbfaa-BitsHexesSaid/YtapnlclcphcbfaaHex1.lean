/-
  Contracts of Hex, Unhex and their digits.
-/
import Derived.Test.YtapnlclcphcbfaaBytes1
import Derived.Test.YtapnlclcphcbfaaHexM
import Derived.Test.YtapnlclcphcbfaaReg1
import Derived.Laws.IdiomStrings
import Derived.StillTailTactics
namespace Go.Proofs.Ytapnlclcphcbfaa
open Go.RowKit
set_option linter.unusedVariables false

def tabL : List UInt8 := [48, 49, 50, 51, 52, 53, 54, 55, 56, 57, 97, 98, 99, 100, 101, 102]
theorem tabL_at : ∀ n, n < 16 → tabL[n]? = some (hexD n) := by decide
theorem idx_tab (k : Int) (n : Nat) (hk : k = (n : Int)) (hn : n < 16) (w : World) :
    (Instr.index 9 (.string ⟨#[48, 49, 50, 51, 52, 53, 54, 55, 56, 57, 97, 98, 99, 100, 101, 102]⟩) (.int .u8 k)).run Try.prog w = .ok (.int .u8 ((hexD n).toNat : Int)) w := by
  subst hk
  have hs : (ByteArray.mk #[48, 49, 50, 51, 52, 53, 54, 55, 56, 57, 97, 98, 99, 100, 101, 102]).size = 16 := rfl
  rw [run_index_string w 9 _ .u8 _ Try.underlying9, dif_pos ⟨by omega, by rw [hs]; omega⟩]
  congr 3
  have h1 := tabL_at n hn
  have h2 : tabL[n]? = some ((ByteArray.mk #[48, 49, 50, 51, 52, 53, 54, 55, 56, 57, 97, 98, 99, 100, 101, 102])[n]'(by rw [hs]; exact hn)) := by
    rw [List.getElem?_eq_getElem (by exact hn)]; rfl
  rw [h2] at h1
  injection h1 with h1
  simp only [Int.toNat_natCast]
  rw [h1]
theorem sl_tab (k k1 : Int) (n : Nat) (hk : k = (n : Int)) (hk1 : k1 = (n : Int) + 1) (hn : n < 16) (w : World) :
    (Instr.slice 9 (.string ⟨#[48, 49, 50, 51, 52, 53, 54, 55, 56, 57, 97, 98, 99, 100, 101, 102]⟩) (some (.int .u8 k)) (some (.int .u8 k1)) none).run Try.prog w = .ok (.string ⟨#[hexD n]⟩) w := by
  subst hk; subst hk1
  have hs : (ByteArray.mk #[48, 49, 50, 51, 52, 53, 54, 55, 56, 57, 97, 98, 99, 100, 101, 102]).size = 16 := rfl
  rw [run_slice_string w 9 _ .u8 .u8 _ _ Try.underlying9 (by omega) (by omega) (by rw [hs]; omega)]
  congr 2
  have h : ∀ n, n < 16 → (tabL.drop n).take (n + 1 - n) = [hexD n] := by decide
  have := ByteArray.extract_mk tabL n (n + 1)
  rw [h n hn] at this
  exact this

def digI (c : UInt8) : Int := match digV c with | some k => (k : Int) | none => -1
theorem digI_some {c : UInt8} {k : Nat} (h : digV c = some k) : digI c = (k : Int) := by simp [digI, h]
theorem digI_none {c : UInt8} (h : digV c = none) : digI c = -1 := by simp [digI, h]

theorem digit_any (c : UInt8) (w : World) :
    Calls Try.prog 40 #[.int .u8 (c.toNat : Int)] w fun e w' => e = .returned (.int .i64 (digI c)) ∧ w = w' := by
  obtain ⟨y, hy⟩ : ∃ y, y = c.toNat := ⟨_, rfl⟩
  have hlt : y < 256 := by rw [hy]; exact c.toNat_lt
  have hd : digI c = if 48 ≤ y ∧ y ≤ 57 then (y : Int) - 48 else if 97 ≤ y ∧ y ≤ 102 then (y : Int) - 87 else -1 := by
    unfold digI digV
    rw [← hy]
    by_cases h1 : 48 ≤ y ∧ y ≤ 57
    · rw [if_pos h1, if_pos h1]; simp only []; omega
    · rw [if_neg h1, if_neg h1]
      by_cases h2 : 97 ≤ y ∧ y ≤ 102
      · rw [if_pos h2, if_pos h2]; simp only []; omega
      · rw [if_neg h2, if_neg h2]
  rw [← hy]
  have HD := hide hd
  clear hd hy
  by_cases h1 : 48 ≤ y
  · by_cases h2 : y ≤ 57
    · go_enter Try.func40, Try.ntmps40
      go_wp2
      go_ret
      exact ⟨ret_int (by rw [HD.out, if_pos ⟨h1, h2⟩]), rfl⟩
    · by_cases h3 : 97 ≤ y
      · by_cases h4 : y ≤ 102
        · go_enter Try.func40, Try.ntmps40
          go_wp2
          go_ret
          exact ⟨ret_int (by rw [HD.out, if_neg (by omega), if_pos ⟨h3, h4⟩]; omega), rfl⟩
        · go_enter Try.func40, Try.ntmps40
          go_wp2
          go_ret
          exact ⟨ret_int (by rw [HD.out, if_neg (by omega), if_neg (by omega)]), rfl⟩
      · go_enter Try.func40, Try.ntmps40
        go_wp2
        go_ret
        exact ⟨ret_int (by rw [HD.out, if_neg (by omega), if_neg (by omega)]), rfl⟩
  · go_enter Try.func40, Try.ntmps40
    go_wp2
    go_ret
    exact ⟨ret_int (by rw [HD.out, if_neg (by omega), if_neg (by omega)]), rfl⟩

def digN (c : UInt8) : Nat := match digV c with | some k => k | none => 0
def digB (c : UInt8) : Bool := match digV c with | some _ => true | none => false
theorem digN_some {c : UInt8} {k : Nat} (h : digV c = some k) : digN c = k := by simp [digN, h]
theorem digB_some {c : UInt8} {k : Nat} (h : digV c = some k) : digB c = true := by simp [digB, h]
theorem digB_none {c : UInt8} (h : digV c = none) : digB c = false := by simp [digB, h]
theorem ret_nb' {k : IntKind} {a a' : Int} {b b' : Bool} (h : a = a') (h2 : b = b') : Ending.returned (.tuple #[.int k a, .bool b]) = .returned (.tuple #[.int k a', .bool b']) := by rw [h, h2]

theorem rdigit_any (c : UInt8) (w : World) :
    Calls Try.prog 41 #[.int .u8 (c.toNat : Int)] w fun e w' => e = .returned (.tuple #[.int .u8 (digN c : Nat), .bool (digB c)]) ∧ w = w' := by
  obtain ⟨y, hy⟩ : ∃ y, y = c.toNat := ⟨_, rfl⟩
  have hlt : y < 256 := by rw [hy]; exact c.toNat_lt
  have hd : ((digN c : Nat) : Int) = (if 48 ≤ y ∧ y ≤ 57 then (y : Int) - 48 else if 97 ≤ y ∧ y ≤ 102 then (y : Int) - 87 else 0) ∧ digB c = (if 48 ≤ y ∧ y ≤ 57 then true else if 97 ≤ y ∧ y ≤ 102 then true else false) := by
    unfold digN digB digV
    rw [← hy]
    by_cases h1 : 48 ≤ y ∧ y ≤ 57
    · rw [if_pos h1, if_pos h1, if_pos h1]; simp only [and_true]; omega
    · rw [if_neg h1, if_neg h1, if_neg h1]
      by_cases h2 : 97 ≤ y ∧ y ≤ 102
      · rw [if_pos h2, if_pos h2, if_pos h2]; simp only [and_true]; omega
      · rw [if_neg h2, if_neg h2, if_neg h2]; exact ⟨rfl, rfl⟩
  rw [← hy]
  have HD := hide hd
  clear hd hy
  by_cases h1 : 48 ≤ y
  · by_cases h2 : y ≤ 57
    · go_enter Try.func41, Try.ntmps41
      go_wp2
      go_ret2
      exact ⟨ret_nb' (by rw [HD.out.1, if_pos ⟨h1, h2⟩]) (by rw [HD.out.2, if_pos ⟨h1, h2⟩]), rfl⟩
    · by_cases h3 : 97 ≤ y
      · by_cases h4 : y ≤ 102
        · go_enter Try.func41, Try.ntmps41
          go_wp2
          go_ret2
          exact ⟨ret_nb' (by rw [HD.out.1, if_neg (by omega), if_pos ⟨h3, h4⟩]; omega) (by rw [HD.out.2, if_neg (by omega), if_pos ⟨h3, h4⟩]), rfl⟩
        · go_enter Try.func41, Try.ntmps41
          go_wp2
          go_ret2
          exact ⟨ret_nb' (by rw [HD.out.1, if_neg (by omega), if_neg (by omega)]) (by rw [HD.out.2, if_neg (by omega), if_neg (by omega)]), rfl⟩
      · go_enter Try.func41, Try.ntmps41
        go_wp2
        go_ret2
        exact ⟨ret_nb' (by rw [HD.out.1, if_neg (by omega), if_neg (by omega)]) (by rw [HD.out.2, if_neg (by omega), if_neg (by omega)]), rfl⟩
  · go_enter Try.func41, Try.ntmps41
    go_wp2
    go_ret2
    exact ⟨ret_nb' (by rw [HD.out.1, if_neg (by omega), if_neg (by omega)]) (by rw [HD.out.2, if_neg (by omega), if_neg (by omega)]), rfl⟩
end Go.Proofs.Ytapnlclcphcbfaa
