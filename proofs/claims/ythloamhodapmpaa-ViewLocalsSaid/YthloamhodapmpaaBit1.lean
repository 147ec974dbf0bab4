/-
  Contracts of Bit, Pick and Top.
-/
import Derived.Test.YthloamhodapmpaaNum1
namespace Go.Proofs.Ythloamhodapmpaa
open Go.RowKit
set_option linter.unusedVariables false

/-- How many bits a number needs. -/
def topF : Nat → Nat → Nat
  | 0, _ => 0
  | k + 1, n => if n = 0 then 0 else topF k (n / 2) + 1
theorem topF_zero (k : Nat) : topF k 0 = 0 := by cases k <;> simp [topF]
theorem topF_pos (k n : Nat) (h : n ≠ 0) : topF (k + 1) n = topF k (n / 2) + 1 := by simp [topF, h]
theorem topF_le (k n : Nat) : topF k n ≤ k := by
  induction k generalizing n with
  | zero => simp [topF]
  | succ k ih =>
    by_cases h : n = 0
    · rw [h, topF_zero]; omega
    · rw [topF_pos k n h]; have := ih (n / 2); omega
theorem topF_lt (k n : Nat) (h : n < 2 ^ k) : n < 2 ^ topF k n := by
  induction k generalizing n with
  | zero => simpa [topF] using h
  | succ k ih =>
    by_cases h0 : n = 0
    · rw [h0, topF_zero]; decide
    · rw [topF_pos k n h0, Nat.pow_succ]
      have := ih (n / 2) (by rw [Nat.pow_succ] at h; omega)
      omega
theorem topF_ge (k n : Nat) (h : 0 < topF k n) : 2 ^ (topF k n - 1) ≤ n := by
  induction k generalizing n with
  | zero => simp [topF] at h
  | succ k ih =>
    by_cases h0 : n = 0
    · rw [h0, topF_zero] at h; omega
    · rw [topF_pos k n h0]
      by_cases h1 : 0 < topF k (n / 2)
      · have := ih (n / 2) h1
        rw [show topF k (n / 2) + 1 - 1 = topF k (n / 2) - 1 + 1 from by omega, Nat.pow_succ]
        omega
      · rw [show topF k (n / 2) + 1 - 1 = 0 from by omega]
        simp; omega
def topL (n : Nat) : Nat := topF 64 n
theorem topL_le (n : Nat) : topL n ≤ 64 := topF_le 64 n
theorem topL_zero_iff (n : Nat) : topL n = 0 ↔ n = 0 := by
  constructor
  · intro h
    by_cases h0 : n = 0
    · exact h0
    · unfold topL at h; rw [topF_pos 63 n h0] at h; omega
  · rintro rfl; exact topF_zero 64
theorem topL_bit (n : Nat) (hn : n < 18446744073709551616) (h : 0 < topL n) : bitB n (topL n - 1) = true := by
  have h1 := topF_lt 64 n hn
  have h2 := topF_ge 64 n h
  unfold topL at *
  generalize topF 64 n = t at *
  obtain ⟨s, rfl⟩ : ∃ s, t = s + 1 := ⟨t - 1, by omega⟩
  simp only [Nat.add_sub_cancel] at h2 ⊢
  rw [Nat.pow_succ] at h1
  have h3 : n / 2 ^ s < 2 := by rw [Nat.div_lt_iff_lt_mul (Nat.pow_pos (by decide)), Nat.mul_comm]; exact h1
  have h4 : 1 ≤ n / 2 ^ s := by rw [Nat.le_div_iff_mul_le (Nat.pow_pos (by decide))]; omega
  simp only [bitB, decide_eq_true_eq]
  omega
theorem topL_over (n i : Nat) (hn : n < 18446744073709551616) (h : topL n ≤ i) : bitB n i = false := by
  have h1 := topF_lt 64 n hn
  have h2 : n < 2 ^ i := Nat.lt_of_lt_of_le h1 (Nat.pow_le_pow_right (by decide) h)
  simp [bitB, Nat.div_eq_of_lt h2]

/-- At the head of Top's round. -/
structure TopInv (n j m : Nat) : Prop where
  whole : topL n = j + topF (64 - j) m
  small : m < 2 ^ (64 - j)
  upto : j ≤ 64
theorem TopInv.start (n : Nat) (h : n < 18446744073709551616) : TopInv n 0 n := ⟨by simp [topL], h, by omega⟩
theorem TopInv.step {n j m : Nat} (h : TopInv n j m) (hm : m ≠ 0) : TopInv n (j + 1) (m / 2) := by
  obtain ⟨h1, h2, h3⟩ := h
  obtain ⟨r, hr⟩ : ∃ r, 64 - j = r := ⟨_, rfl⟩
  rw [hr] at h1 h2
  cases r with
  | zero => simp at h2; omega
  | succ r =>
    have e : 64 - (j + 1) = r := by omega
    refine ⟨by rw [h1, topF_pos r m hm, e]; omega, ?_, by omega⟩
    rw [e]
    rw [Nat.pow_succ] at h2
    omega
theorem TopInv.stop {n j : Nat} (h : TopInv n j 0) : j = topL n := by rw [h.whole, topF_zero]; omega
theorem TopInv.room {n j m : Nat} (h : TopInv n j m) : j ≤ 64 := h.upto
theorem TopInv.fits {n j m : Nat} (h : TopInv n j m) : m < 18446744073709551616 := Nat.lt_of_lt_of_le h.small (Nat.pow_le_pow_right (by decide) (by omega : 64 - j ≤ 64))

end Go.Proofs.Ythloamhodapmpaa
