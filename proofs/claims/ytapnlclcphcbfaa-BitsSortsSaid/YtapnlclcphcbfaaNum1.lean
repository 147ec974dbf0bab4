/-
  Contracts of the number functions of layer 1.
-/
import Derived.Test.YtapnlclcphcbfaaRows
import Derived.Test.YtapnlclcphcbfaaLib
import Derived.Test.YtapnlclcphcbfaaMath1
import Derived.Outline
namespace Go.Proofs.Ytapnlclcphcbfaa
open Go.RowKit
set_option linter.unusedVariables false

theorem zig_any (n : Int) (w : World) (h0 : -9223372036854775808 ≤ n) (h1 : n ≤ 9223372036854775807) :
    Calls Try.prog 27 #[.int .i64 n] w fun e w' => e = .returned (.int .u64 (zigF n)) ∧ w = w' := by
  go_enter Try.func27, Try.ntmps27
  go_wp2
  go_ret
  exact ⟨ret_int (zig_code h0 h1), rfl⟩
theorem zag_any (n : Int) (w : World) (h0 : 0 ≤ n) (h1 : n ≤ 18446744073709551615) :
    Calls Try.prog 29 #[.int .u64 n] w fun e w' => e = .returned (.int .i64 (zagF n)) ∧ w = w' := by
  go_enter Try.func29, Try.ntmps29
  go_wp2
  go_ret
  exact ⟨ret_int (zag_code h0 h1), rfl⟩
theorem rzig_any (n : Int) (w : World) (h0 : -9223372036854775808 ≤ n) (h1 : n ≤ 9223372036854775807) :
    Calls Try.prog 28 #[.int .i64 n] w fun e w' => e = .returned (.int .u64 (zigF n)) ∧ w = w' := by
  by_cases h : 0 ≤ n
  · go_enter Try.func28, Try.ntmps28
    go_wp2
    go_ret
    exact ⟨ret_int (by rw [zigF_pos h]; omega), rfl⟩
  · go_enter Try.func28, Try.ntmps28
    go_wp2
    go_ret
    exact ⟨ret_int (zig_ref h0 (by omega)), rfl⟩
theorem width_any (n : Int) (w : World)  :
    Calls Try.prog 38 #[.int .i64 n] w fun e w' => e = .returned (.bool (widthB n)) ∧ w = w' := by
  go_enter Try.func38, Try.ntmps38
  go_wp2
  all_goals go_ret
  all_goals exact ⟨ret_bool (by simp_all [widthB]), rfl⟩
theorem rwidth_any (n : Int) (w : World)  :
    Calls Try.prog 16 #[.int .i64 n] w fun e w' => e = .returned (.bool (widthB n)) ∧ w = w' := by
  go_enter Try.func16, Try.ntmps16
  go_wp2
  all_goals go_ret
  all_goals exact ⟨ret_bool (by simp_all [widthB]), rfl⟩
theorem turn_any (n : Nat) (k : Int) (w : World) (h1 : n < 18446744073709551616) :
    Calls Try.prog 32 #[.int .u64 (n : Int), .int .i64 k] w fun e w' => e = .returned (.int .u64 (turnF n (k % 64).toNat : Nat)) ∧ w = w' := by
  obtain ⟨j, hj, hj64⟩ : ∃ j : Nat, bits .and .u64 (IntKind.u64.wrap k) 63 = (j : Int) ∧ j = (k % 64).toNat := by
    refine ⟨(k % 64).toNat, ?_, rfl⟩
    rw [IntKind.wrap_u64, u64_and_63 _ (by omega) (by omega)]
    omega
  have hlt : j < 64 := by omega
  have hle : 0 ≤ (j : Int) := by omega
  have H := Lib.hid hj64
  clear hj64
  go_enter Try.func32, Try.ntmps32
  go_wp2
  go_ret
  exact ⟨ret_int (by rw [turn_code n j h1 hlt, H.out]), rfl⟩
end Go.Proofs.Ytapnlclcphcbfaa
