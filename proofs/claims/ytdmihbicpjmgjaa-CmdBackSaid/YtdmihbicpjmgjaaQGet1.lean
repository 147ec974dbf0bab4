/-
  Contracts of Get, Number and Narrow.
-/
import Derived.Test.YtdmihbicpjmgjaaQBytes1
import Derived.Test.YtdmihbicpjmgjaaQPut1
namespace Go.Proofs.Ytdmihbicpjmgjaa
open Go.RowKit
set_option linter.unusedVariables false

theorem join8 (m : Nat) (x : UInt8) (hm : m < 72057594037927936) : bits .or .u64 (IntKind.u64.wrap ((m : Int) * 256)) (x.toNat : Int) = ((m * 256 + x.toNat : Nat) : Int) := by
  have hx := x.toNat_lt
  rw [IntKind.wrap_u64, show ((m : Int) * 256) % 18446744073709551616 = ((m * 256 : Nat) : Int) from by omega, u64_or_nat _ _ (by omega) (by omega), nat_join 8 _ _ (by omega) hx]
theorem numL_take_snoc {l : List UInt8} {k : Nat} (h : k < l.length) : numL (l.take (k + 1)) = numL (l.take k) * 256 + l[k].toNat := by
  rw [take_snoc h, numL_snoc]
theorem numL_take_lt (l : List UInt8) (k j : Nat) (h : k ≤ j) : numL (l.take k) < 2 ^ (8 * j) := by
  have h1 := numL_lt (l.take k)
  have h2 : (l.take k).length ≤ j := Nat.le_trans (List.length_take_le _ _) h
  exact Nat.lt_of_lt_of_le h1 (Nat.pow_le_pow_right (by decide) (by omega))

/-- What of n fits a width. -/
def narrowF (n W : Nat) : Nat := n % 2 ^ (8 * W)
theorem narrow_no (n W : Int) (w : World) (hW : widthB W = false) :
    Calls Try.prog 91 #[.int .u64 n, .int .i64 W] w fun e w' => e = .returned (.tuple #[.int .u64 0, .bool false]) ∧ w = w' := by
  obtain ⟨h1, h2, h3, h4⟩ := widthB_no hW
  have t1 : (W == 1) = false := beq_eq_false_iff_ne.2 h1
  have t2 : (W == 2) = false := beq_eq_false_iff_ne.2 h2
  have t3 : (W == 4) = false := beq_eq_false_iff_ne.2 h3
  have t4 : (W == 8) = false := beq_eq_false_iff_ne.2 h4
  clear h1 h2 h3 h4 hW
  go_enter Try.func91, Try.ntmps91
  go_wp2
  go_ret2
  exact ⟨rfl, rfl⟩
theorem ret_narrow {k : IntKind} {a a' n : Int} (h : a = a') : Ending.returned (.tuple #[.int k a, .bool (a == n)]) = .returned (.tuple #[.int k a', .bool (a' == n)]) := by rw [h]
theorem narrow_1 (n : Nat) : (n : Int) % 256 = (narrowF n 1 : Nat) := by simp only [narrowF]; omega
theorem narrow_2 (n : Nat) : IntKind.u64.wrap (IntKind.u16.wrap (n : Int)) = (narrowF n 2 : Nat) := by simp only [narrowF, IntKind.wrap_u64, IntKind.wrap_u16]; omega
theorem narrow_4 (n : Nat) : (n : Int) % 4294967296 = (narrowF n 4 : Nat) := by simp only [narrowF]; omega
theorem narrow_8 (n : Nat) (h : n < 18446744073709551616) : narrowF n 8 = n := Nat.mod_eq_of_lt h
theorem ret_narrow8 {n : Nat} (h : n < 18446744073709551616) : Ending.returned (.tuple #[.int .u64 (n : Int), .bool true]) = .returned (.tuple #[.int .u64 (narrowF n 8 : Nat), .bool ((narrowF n 8 : Int) == (n : Int))]) := by
  rw [narrow_8 n h]; simp
set_option maxRecDepth 100000 in
theorem narrow_any (n W : Nat) (w : World) (hn : n < 18446744073709551616) (hW : widthB (W : Int) = true) :
    Calls Try.prog 91 #[.int .u64 (n : Int), .int .i64 (W : Int)] w fun e w' => e = .returned (.tuple #[.int .u64 (narrowF n W : Nat), .bool ((narrowF n W : Int) == (n : Int))]) ∧ w = w' := by
  have hc := widthB_cases hW
  obtain rfl | rfl | rfl | rfl : W = 1 ∨ W = 2 ∨ W = 4 ∨ W = 8 := by omega
  all_goals clear hc hW
  all_goals go_enter Try.func91, Try.ntmps91
  all_goals go_wp2
  all_goals go_ret2
  · exact ⟨ret_narrow (narrow_1 n), rfl⟩
  · exact ⟨ret_narrow (narrow_2 n), rfl⟩
  · exact ⟨ret_narrow (narrow_4 n), rfl⟩
  · exact ⟨ret_narrow8 hn, rfl⟩
end Go.Proofs.Ytdmihbicpjmgjaa
