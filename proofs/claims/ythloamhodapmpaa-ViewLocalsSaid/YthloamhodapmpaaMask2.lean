/-
  Contracts of layer 5: First, Count, Majority, Of; the document's examples.
-/
import Derived.Test.YthloamhodapmpaaMask1
import Derived.Test.YthloamhodapmpaaRowE
import Derived.Deep.WholeRow
namespace Go.Proofs.Ythloamhodapmpaa
open Go.RowKit
set_option linter.unusedVariables false
set_option linter.unusedSimpArgs false

theorem wrap_ones {r : Nat} (h : r < 64) : IntKind.u64.wrap (IntKind.u64.wrap ((2 : Int) ^ r) - 1) = ((2 ^ r - 1 : Nat) : Int) := by
  have hp := pow_lt64 h
  have h1 : 0 < 2 ^ r := Nat.pow_pos (by decide)
  rw [wrap_pow h, IntKind.wrap_u64]
  generalize 2 ^ r = p at *
  omega
set_option maxRecDepth 100000 in
theorem run_any (k : Nat) (w : World) (hk : k ≤ 64) :
    Calls Try.prog 86 #[.int .i64 (k : Int)] w fun e w' => e = .returned (.int .u64 ((2 ^ k - 1 : Nat) : Int)) ∧ w = w' := by
  by_cases h : k = 64
  · subst h
    go_enter Try.func86, Try.ntmps86
    go_wp2
    go_ret
    exact ⟨ret_int (by decide), rfl⟩
  · have hp := wrap_ones (r := k) (by omega)
    go_enter Try.func86, Try.ntmps86
    go_wp2
    go_ret
    exact ⟨ret_int (by first | rfl | exact hp), rfl⟩
set_option maxRecDepth 100000 in
theorem first_any (k : Nat) (w : World) (hk : k ≤ 128) :
    Calls Try.prog 70 #[.int .i64 (k : Int)] w fun e w' => e = .returned (.agg #[.int .u64 ((fstA k : Nat) : Int), .int .u64 ((fstB k : Nat) : Int)]) ∧ Below w.heap.size w w' := by
  rcases Nat.lt_trichotomy k 64 with h | h | h
  · have c1 := fun W => run_any k W (by omega)
    have c2 := fun W => run_any 0 W (by decide)
    rw [show fstA k = 2 ^ k - 1 from by unfold fstA; rw [Nat.min_eq_left (show k ≤ 64 by omega)], show fstB k = 2 ^ 0 - 1 from by unfold fstB; rw [Nat.sub_eq_zero_of_le (show k ≤ 64 by omega)]]
    generalize 2 ^ k - 1 = p at *
    generalize 2 ^ 0 - 1 = q at *
    have h1 : ¬ 0 ≤ (k : Int) - 64 := by omega
    go_enter Try.func70, Try.ntmps70
    go_wp2_with fail
    refine (c1 _).mono ?_
    rintro e w1 ⟨rfl, rfl⟩
    go_wp2_with fail
    refine (c2 _).mono ?_
    rintro e w1 ⟨rfl, rfl⟩
    go_wp2
    refine bodyPost_ret (v := .agg #[.int .u64 (p : Int), .int .u64 (q : Int)]) (by simp [results, Try.results70, go_sem]) rfl ⟨rfl, ?_⟩
    exact ((Below.refl _ _).alloc (Nat.le_refl _) _)
  · subst h
    have c1 := fun W => run_any 64 W (by omega)
    have c2 := fun W => run_any 0 W (by decide)
    rw [show fstA 64 = 2 ^ 64 - 1 from rfl, show fstB 64 = 2 ^ 0 - 1 from rfl]
    generalize 2 ^ 64 - 1 = p at *
    generalize 2 ^ 0 - 1 = q at *
    go_enter Try.func70, Try.ntmps70
    go_wp2_with fail
    refine (c1 _).mono ?_
    rintro e w1 ⟨rfl, rfl⟩
    go_wp2_with fail
    refine (c2 _).mono ?_
    rintro e w1 ⟨rfl, rfl⟩
    go_wp2
    refine bodyPost_ret (v := .agg #[.int .u64 (p : Int), .int .u64 (q : Int)]) (by simp [results, Try.results70, go_sem]) rfl ⟨rfl, ?_⟩
    exact ((Below.refl _ _).alloc (Nat.le_refl _) _)
  · obtain ⟨m, rfl⟩ : ∃ m, k = m + 64 := ⟨k - 64, by omega⟩
    have c1 := fun W => run_any 64 W (by omega)
    have c2 := fun W => run_any m W (by omega)
    rw [show fstA (m + 64) = 2 ^ 64 - 1 from by unfold fstA; rw [Nat.min_eq_right (by omega)], show fstB (m + 64) = 2 ^ m - 1 from by unfold fstB; rw [Nat.add_sub_cancel]]
    generalize 2 ^ 64 - 1 = p at *
    generalize 2 ^ m - 1 = q at *
    have h1 : ¬ ((m + 64 : Nat) : Int) ≤ 64 := by omega
    have h2 : 0 ≤ ((m + 64 : Nat) : Int) - 64 := by omega
    have h3 : ((m + 64 : Nat) : Int) - 64 = (m : Int) := by omega
    go_enter Try.func70, Try.ntmps70
    go_wp2_with fail
    refine (c1 _).mono ?_
    rintro e w1 ⟨rfl, rfl⟩
    go_wp2_with fail
    refine (c2 _).mono ?_
    rintro e w1 ⟨rfl, rfl⟩
    go_wp2
    refine bodyPost_ret (v := .agg #[.int .u64 (p : Int), .int .u64 (q : Int)]) (by simp [results, Try.results70, go_sem]) rfl ⟨rfl, ?_⟩
    exact ((Below.refl _ _).alloc (Nat.le_refl _) _)

/-- What the first j words hold. -/
def popTo (a b : Nat) : Nat → Nat
  | 0 => 0
  | 1 => popW a
  | _ => popW a + popW b
theorem and_one (y : Nat) (hy : y < 18446744073709551616) : bits .and .u64 (y : Int) 1 = ((y % 2 : Nat) : Int) := by
  have := u64_and_nat y 1 hy (by decide)
  rw [nat_mask1] at this
  exact this
theorem index_0 (a b : Nat) (w : World) : (Instr.index 39 (.agg #[.int .u64 (a : Int), .int .u64 (b : Int)]) (.int .i64 0)).run Try.prog w = .ok (.int .u64 (a : Int)) w := by
  simp [Instr.index, go_sem, asIntOf, part]
theorem index_1 (a b : Nat) (w : World) : (Instr.index 39 (.agg #[.int .u64 (a : Int), .int .u64 (b : Int)]) (.int .i64 1)).run Try.prog w = .ok (.int .u64 (b : Int)) w := by
  simp [Instr.index, go_sem, asIntOf, part]
set_option maxRecDepth 100000 in
theorem count_any (a b : Nat) (w : World) (ha : a < 18446744073709551616) (hb : b < 18446744073709551616) :
    Calls Try.prog 67 #[.agg #[.int .u64 (a : Int), .int .u64 (b : Int)]] w fun e w' => e = .returned (.int .i64 (popM a b : Nat)) ∧ Below w.heap.size w w' := by
  rw [popM_eq]
  have hbw : Below w.heap.size w (w.alloc (.cells #[.int .u64 (a : Int), .int .u64 (b : Int)] 39)) := (Below.refl _ _).alloc (Nat.le_refl _) _
  have hX0 := index_0 a b
  have hX1 := index_1 a b
  go_enter Try.func67, Try.ntmps67
  go_wp2
  go_loop [3, 7] (fun v i => ∃ j n : Nat, j ≤ 2 ∧ i = .int .i64 j ∧ v = .int .i64 n ∧ n = popTo a b j) (fun _ i => 2 - (intOf i).toNat)
  case atStart => exact ⟨0, 0, by omega, rfl, rfl, rfl⟩
  case round =>
    obtain ⟨j, n, hj, rfl, rfl, hn⟩ := hrel
    have HN := hide hn
    clear hn
    obtain rfl | rfl | rfl : j = 0 ∨ j = 1 ∨ j = 2 := by omega
    · have h0 := PopInv.start a n
      have hn0 : n ≤ 64 := by rw [HN.out]; have := popW_le a; simp only [popTo]; omega
      go_wp2
      go_loop [3, 5] (fun v y => ∃ j n' y' : Nat, v = .int .i64 n' ∧ y = .int .u64 y' ∧ PopInv a n j n' y') (fun _ y => (intOf y).toNat)
      case atStart => exact ⟨0, n, a, rfl, rfl, h0⟩
      case round =>
        obtain ⟨j, n', y', rfl, rfl, hinv⟩ := hrel
        have hs := hinv.small
        have hf := hinv.fits ha
        by_cases hy : y' = 0
        · subst hy
          have e := hinv.stop
          have HE := hide e
          clear e
          go_wp2
          go_round
          case rel => exact ⟨1, n', by omega, by go_num, rfl, by rw [HE.out, HN.out]; simp [popTo]⟩
          case measure => simp [intOf]
        · have hy' : ((y' : Int) != 0) = true := by simp only [bne_iff_ne, ne_eq]; omega
          have hi := hinv.step ha hy
          have ho := and_one y' hf
          obtain ⟨d, hd⟩ : ∃ d, d = y' % 2 := ⟨_, rfl⟩
          have hd2 : d < 2 := by omega
          rw [← hd] at ho hi
          clear hd
          go_wp2
          go_round
          case rel => exact ⟨j + 1, n' + d, y' / 2, by go_num, by go_num, hi⟩
          case measure => simp [intOf]; omega
    · have h0 := PopInv.start b n
      have hn0 : n ≤ 64 := by rw [HN.out]; have := popW_le a; simp only [popTo]; omega
      go_wp2
      go_loop [3, 5] (fun v y => ∃ j n' y' : Nat, v = .int .i64 n' ∧ y = .int .u64 y' ∧ PopInv b n j n' y') (fun _ y => (intOf y).toNat)
      case atStart => exact ⟨0, n, b, rfl, rfl, h0⟩
      case round =>
        obtain ⟨j, n', y', rfl, rfl, hinv⟩ := hrel
        have hs := hinv.small
        have hf := hinv.fits hb
        by_cases hy : y' = 0
        · subst hy
          have e := hinv.stop
          have HE := hide e
          clear e
          go_wp2
          go_round
          case rel => exact ⟨2, n', by omega, by go_num, rfl, by rw [HE.out, HN.out]; simp [popTo]⟩
          case measure => simp [intOf]
        · have hy' : ((y' : Int) != 0) = true := by simp only [bne_iff_ne, ne_eq]; omega
          have hi := hinv.step hb hy
          have ho := and_one y' hf
          obtain ⟨d, hd⟩ : ∃ d, d = y' % 2 := ⟨_, rfl⟩
          have hd2 : d < 2 := by omega
          rw [← hd] at ho hi
          clear hd
          go_wp2
          go_round
          case rel => exact ⟨j + 1, n' + d, y' / 2, by go_num, by go_num, hi⟩
          case measure => simp [intOf]; omega
    · go_wp2
      go_ret
      exact ⟨ret_int (by rw [HN.out]; rfl), hbw⟩
end Go.Proofs.Ythloamhodapmpaa
