/-
  The document's Pick: a place below n, picked by any number.
-/
import Derived.Test.YtgbfpolcefhemaaOpen
namespace Go.Proofs.Ytgbfpolcefhemaa
open Go.RowKit
set_option linter.unusedVariables false
set_option linter.unusedSimpArgs false

/-- A place below n, picked by any number. -/
def pickF (a n : Int) : Int := if n < 1 then 0 else a % n
theorem pickF_bd {a n : Int} (h : 1 ≤ n) : 0 ≤ pickF a n ∧ pickF a n < n := by
  unfold pickF
  rw [if_neg (by omega)]
  exact ⟨Int.emod_nonneg _ (by omega), Int.emod_lt_of_pos _ (by omega)⟩
theorem tmod_emod (a n : Int) : a.tmod n % n = a % n := by
  have h := Int.mul_tdiv_add_tmod a n
  conv => rhs; rw [← h]
  rw [Int.add_comm, Int.add_mul_emod_self_left]
theorem pickF_hi {a n : Int} (h : 1 ≤ n) : 0 ≤ a.tmod n → pickF a n = a.tmod n := by
  intro h0
  unfold pickF
  rw [if_neg (by omega), ← tmod_emod]
  exact Int.emod_eq_of_lt h0 (Int.tmod_lt_of_pos a (by omega))
theorem pickF_lo {a n : Int} (h : 1 ≤ n) : a.tmod n < 0 → pickF a n = a.tmod n + n := by
  intro h0
  unfold pickF
  rw [if_neg (by omega), ← tmod_emod, ← Int.add_emod_right]
  have := Int.lt_tmod_of_pos a (show 0 < n by omega)
  exact Int.emod_eq_of_lt (by omega) (by omega)
theorem pick_any (a n : Int) (w : World) (ha0 : -9223372036854775808 ≤ a) (ha : a ≤ 9223372036854775807) (h1 : 1 ≤ n) (h2 : n ≤ 4611686018427387904) :
    Calls Try.prog 12 #[.int .i64 a, .int .i64 n] w fun e w' => e = .returned (.int .i64 (pickF a n)) ∧ w = w' := by
  obtain ⟨r, hr⟩ : ∃ r, r = a.tmod n := ⟨_, rfl⟩
  have e1 := pickF_hi (a := a) h1
  have e2 := pickF_lo (a := a) h1
  have e3 := Int.tmod_lt_of_pos a (show 0 < n by omega)
  have e4 := Int.lt_tmod_of_pos a (show 0 < n by omega)
  rw [← hr] at e1 e2 e3 e4
  have HR := hide hr
  have E1 := hide e1
  have E2 := hide e2
  clear hr e1 e2
  go_enter Try.func12, Try.ntmps12
  go_wp2
  all_goals go_ret
  all_goals rw [← HR.out] at *
  · exact ⟨ret_int (by rw [E2.out (by assumption)]; unfold wrap64; omega), rfl⟩
  · exact ⟨ret_int (E1.out (by assumption)).symm, rfl⟩
end Go.Proofs.Ytgbfpolcefhemaa
