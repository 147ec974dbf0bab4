/-
  Plain numbers for layer 1: zigzags, turns, bits, widths. No program in sight.
-/
import Derived.WalkKit
import Derived.Laws.BitsAllLaws
import Derived.Laws.DeepNot64
namespace Go.Proofs.Ytdmihbicpjmgjaa
open Go.RowKit

theorem u64_xor_zero (a : Int) (h0 : 0 ≤ a) (h1 : a ≤ 18446744073709551615) : bits .xor .u64 a 0 = a := by
  rw [u64_xor a 0 h0 (by omega) (by omega) (by omega)]
  simp; omega
theorem nat_xor_ones64 (a : Nat) (h : a < 18446744073709551616) : a ^^^ 18446744073709551615 = 18446744073709551615 - a := by
  have e := congrArg BitVec.toNat (BitVec.xor_allOnes (x := BitVec.ofNat 64 a))
  rw [BitVec.toNat_xor, BitVec.toNat_not, BitVec.toNat_allOnes, BitVec.toNat_ofNat, Nat.mod_eq_of_lt (by omega)] at e
  have e2 : (2 : Nat) ^ 64 = 18446744073709551616 := by decide
  rw [e2] at e
  exact e
theorem u64_xor_ones (a : Int) (h0 : 0 ≤ a) (h1 : a ≤ 18446744073709551615) : bits .xor .u64 a 18446744073709551615 = 18446744073709551615 - a := by
  rw [u64_xor a _ h0 (by omega) (by omega) (by omega)]
  have := nat_xor_ones64 a.toNat (by omega)
  rw [show (18446744073709551615 : Int).toNat = 18446744073709551615 from rfl, this]
  omega
theorem i64_xor_zero (a : Int) (h0 : -9223372036854775808 ≤ a) (h1 : a ≤ 9223372036854775807) : bits .xor .i64 a 0 = a := by
  show IntKind.i64.wrap ((BitVec.ofInt 64 a ^^^ BitVec.ofInt 64 0).toNat : Int) = a
  rw [show BitVec.ofInt 64 0 = 0#64 from rfl, BitVec.xor_zero, BitVec.toNat_ofInt, IntKind.wrap_i64]
  have e2 : (2 : Int) ^ 64 = 18446744073709551616 := by decide
  simp only [Int.ofNat_toNat]
  have e3 : ((2 ^ 64 : Nat) : Int) = 18446744073709551616 := by decide
  rw [e3]
  omega
theorem i64_xor_comm (a b : Int) : bits .xor .i64 a b = bits .xor .i64 b a := by
  show IntKind.i64.wrap ((BitVec.ofInt 64 a ^^^ BitVec.ofInt 64 b).toNat : Int) = IntKind.i64.wrap ((BitVec.ofInt 64 b ^^^ BitVec.ofInt 64 a).toNat : Int)
  rw [BitVec.xor_comm]
theorem i64_xor_m1 (a : Int) (h0 : 0 ≤ a) (h1 : a ≤ 9223372036854775807) : bits .xor .i64 a (-1) = -1 - a := by
  obtain ⟨n, rfl⟩ := Int.eq_ofNat_of_zero_le h0
  rw [i64_xor_comm]
  exact i64_not n (by omega)
theorem u64_and_one (a : Int) (h0 : 0 ≤ a) (h1 : a ≤ 18446744073709551615) : bits .and .u64 a 1 = a % 2 := by
  rw [u64_and a 1 h0 (by omega) (by omega) (by omega)]
  rw [show (1 : Int).toNat = 1 from rfl, nat_mask1]
  omega
theorem u64_and_63 (a : Int) (h0 : 0 ≤ a) (h1 : a ≤ 18446744073709551615) : bits .and .u64 a 63 = a % 64 := by
  rw [u64_and a 63 h0 (by omega) (by omega) (by omega)]
  rw [show (63 : Int).toNat = 63 from rfl, nat_mask6]
  omega

/-- The zigzag. -/
def zigF (n : Int) : Int := if 0 ≤ n then 2 * n else -2 * n - 1
def zagF (n : Int) : Int := if n % 2 = 0 then n / 2 else -1 - n / 2
theorem zigF_pos {n : Int} (h : 0 ≤ n) : zigF n = 2 * n := if_pos h
theorem zigF_neg {n : Int} (h : n < 0) : zigF n = -2 * n - 1 := if_neg (by omega)
theorem zigF_bd {n : Int} (h0 : -9223372036854775808 ≤ n) (h1 : n ≤ 9223372036854775807) : 0 ≤ zigF n ∧ zigF n ≤ 18446744073709551615 := by
  unfold zigF; split <;> omega
theorem zagF_bd {n : Int} (h0 : 0 ≤ n) (h1 : n ≤ 18446744073709551615) : -9223372036854775808 ≤ zagF n ∧ zagF n ≤ 9223372036854775807 := by
  unfold zagF; split <;> omega
theorem zag_zig {n : Int} : zagF (zigF n) = n := by unfold zagF zigF; split <;> split <;> omega
theorem zig_zag {n : Int} (h0 : 0 ≤ n) : zigF (zagF n) = n := by unfold zagF zigF; split <;> split <;> omega
theorem zig_code {n : Int} (h0 : -9223372036854775808 ≤ n) (h1 : n ≤ 9223372036854775807) :
    bits .xor .u64 (IntKind.u64.wrap (IntKind.u64.wrap n * 2)) (IntKind.u64.wrap (n / 9223372036854775808)) = zigF n := by
  simp only [IntKind.wrap_u64]
  by_cases h : 0 ≤ n
  · rw [show n / 9223372036854775808 = 0 from by omega, show (0 : Int) % 18446744073709551616 = 0 from rfl, u64_xor_zero _ (by omega) (by omega), zigF_pos h]
    omega
  · rw [show n / 9223372036854775808 = -1 from by omega, show (-1 : Int) % 18446744073709551616 = 18446744073709551615 from rfl, u64_xor_ones _ (by omega) (by omega), zigF_neg (by omega)]
    omega
theorem zag_code {n : Int} (h0 : 0 ≤ n) (h1 : n ≤ 18446744073709551615) :
    bits .xor .i64 (n / 2) (wrap64 (-wrap64 (bits .and .u64 n 1))) = zagF n := by
  rw [u64_and_one n h0 h1]
  unfold zagF
  by_cases h : n % 2 = 0
  · rw [h, if_pos rfl, show wrap64 (-wrap64 0) = 0 from by unfold wrap64; omega]
    exact i64_xor_zero _ (by omega) (by omega)
  · rw [show n % 2 = 1 from by omega, if_neg (by decide), show wrap64 (-wrap64 1) = -1 from by unfold wrap64; omega]
    exact i64_xor_m1 _ (by omega) (by omega)
theorem zig_ref {n : Int} (h0 : -9223372036854775808 ≤ n) (h : n < 0) :
    IntKind.u64.wrap (IntKind.u64.wrap (IntKind.u64.wrap (-IntKind.u64.wrap n) * 2) - 1) = zigF n := by
  simp only [IntKind.wrap_u64]
  rw [zigF_neg h]
  omega

/-- n, its bits turned to the left by k places. -/
def turnF (n k : Nat) : Nat := 2 ^ k * (n % 2 ^ (64 - k)) + n / 2 ^ (64 - k)
theorem turnF_zero (n : Nat) (h : n < 18446744073709551616) : turnF n 0 = n := by
  unfold turnF
  simp only [Nat.pow_zero, Nat.one_mul, Nat.sub_zero]
  have e : (2 : Nat) ^ 64 = 18446744073709551616 := by decide
  rw [e, Nat.mod_eq_of_lt h, Nat.div_eq_of_lt h]; rfl
theorem pow_split {k : Nat} (hk : k ≤ 64) : 2 ^ (64 - k) * 2 ^ k = 18446744073709551616 := by
  rw [← Nat.pow_add, Nat.sub_add_cancel hk]
theorem turnF_lt (n k : Nat) (h : n < 18446744073709551616) (hk : k ≤ 64) : turnF n k < 18446744073709551616 := by
  unfold turnF
  have hs := pow_split hk
  have h1 : n % 2 ^ (64 - k) < 2 ^ (64 - k) := Nat.mod_lt _ (Nat.pow_pos (by decide))
  have h2 : n / 2 ^ (64 - k) < 2 ^ k := by rw [Nat.div_lt_iff_lt_mul (Nat.pow_pos (by decide)), Nat.mul_comm, hs]; exact h
  have h3 : 2 ^ k * (n % 2 ^ (64 - k)) + 2 ^ k ≤ 2 ^ k * 2 ^ (64 - k) := by
    rw [← Nat.mul_succ]; exact Nat.mul_le_mul_left _ h1
  rw [Nat.mul_comm (2 ^ k) (2 ^ (64 - k)), hs] at h3
  omega
theorem turn_back (n k : Nat) (h : n < 18446744073709551616) (h0 : 0 < k) (hk : k < 64) : turnF (turnF n k) (64 - k) = n := by
  have h2 : n / 2 ^ (64 - k) < 2 ^ k := by
    rw [Nat.div_lt_iff_lt_mul (Nat.pow_pos (by decide)), Nat.mul_comm, pow_split (by omega)]; exact h
  unfold turnF
  rw [show 64 - (64 - k) = k from by omega, Nat.add_comm (2 ^ k * _) _, Nat.add_mul_mod_self_left, Nat.mod_eq_of_lt h2, Nat.add_mul_div_left _ _ (Nat.pow_pos (by decide)), Nat.div_eq_of_lt h2, Nat.zero_add]
  exact Nat.div_add_mod _ _
/-- The bit at a place. -/
def bitB (n at_ : Nat) : Bool := decide (n / 2 ^ at_ % 2 = 1)
theorem mod_pow_bit (n m i : Nat) (h : i < m) : n % 2 ^ m / 2 ^ i % 2 = n / 2 ^ i % 2 := by
  have e : n % 2 ^ m / 2 ^ i = n / 2 ^ i % 2 ^ (m - i) := by
    rw [show (2 : Nat) ^ m = 2 ^ i * 2 ^ (m - i) from by rw [← Nat.pow_add]; congr 1; omega]
    exact Nat.mod_mul_right_div_self n (2 ^ i) (2 ^ (m - i))
  rw [e]
  exact Nat.mod_mod_of_dvd _ ⟨2 ^ (m - i - 1), by rw [Nat.mul_comm, ← Nat.pow_succ]; congr 1; omega⟩
theorem turn_bit (n k i : Nat) (h : n < 18446744073709551616) (hk : k < 64) (hi : i < 64) : bitB n i = bitB (turnF n k) ((i + k) % 64) := by
  have h2 : n / 2 ^ (64 - k) < 2 ^ k := by
    rw [Nat.div_lt_iff_lt_mul (Nat.pow_pos (by decide)), Nat.mul_comm, pow_split (by omega)]; exact h
  unfold bitB
  congr 2
  by_cases hc : i + k < 64
  · rw [Nat.mod_eq_of_lt hc, Nat.add_comm i k, Nat.pow_add, ← Nat.div_div_eq_div_mul]
    unfold turnF
    rw [Nat.add_comm (2 ^ k * _) _, Nat.add_mul_div_left _ _ (Nat.pow_pos (by decide)), Nat.div_eq_of_lt h2, Nat.zero_add, mod_pow_bit _ _ _ (by omega)]
  · rw [show (i + k) % 64 = i + k - 64 from by omega]
    have hj : i + k - 64 < k := by omega
    rw [← mod_pow_bit (turnF n k) k _ hj]
    unfold turnF
    rw [Nat.add_comm (2 ^ k * _) _, Nat.add_mul_mod_self_left, Nat.mod_eq_of_lt h2, Nat.div_div_eq_div_mul, ← Nat.pow_add, show 64 - k + (i + k - 64) = i from by omega]
theorem turn_code (n k : Nat) (h : n < 18446744073709551616) (hk : k < 64) :
    bits .or .u64 (IntKind.u64.wrap ((n : Int) * 2 ^ k)) ((n : Int) / 2 ^ (64 - k)) = (turnF n k : Int) := by
  have hs := pow_split (k := k) (by omega)
  have hp : (0 : Nat) < 2 ^ k := Nat.pow_pos (by decide)
  have hp2 : (0 : Nat) < 2 ^ (64 - k) := Nat.pow_pos (by decide)
  have e1 : IntKind.u64.wrap ((n : Int) * 2 ^ k) = ((2 ^ k * (n % 2 ^ (64 - k)) : Nat) : Int) := by
    rw [IntKind.wrap_u64, show (n : Int) * 2 ^ k = ((2 ^ k * n : Nat) : Int) from by push_cast; rw [Int.mul_comm]]
    rw [show (18446744073709551616 : Int) = ((2 ^ k * 2 ^ (64 - k) : Nat) : Int) from by rw [Nat.mul_comm, hs]; rfl, ← Int.natCast_emod, Nat.mul_mod_mul_left]
  have e2 : (n : Int) / 2 ^ (64 - k) = ((n / 2 ^ (64 - k) : Nat) : Int) := by rw [Int.natCast_ediv]; push_cast; rfl
  have l2 : n / 2 ^ (64 - k) < 2 ^ k := by rw [Nat.div_lt_iff_lt_mul hp2, Nat.mul_comm, hs]; exact h
  have l1 : 2 ^ k * (n % 2 ^ (64 - k)) + n / 2 ^ (64 - k) < 18446744073709551616 := turnF_lt n k h (by omega)
  have l3 : n / 2 ^ (64 - k) < 18446744073709551616 := Nat.lt_of_le_of_lt (Nat.le_add_left _ _) l1
  have l4 : 2 ^ k * (n % 2 ^ (64 - k)) < 18446744073709551616 := Nat.lt_of_le_of_lt (Nat.le_add_right _ _) l1
  rw [e1, e2, u64_or_nat _ _ l4 l3, nat_join k _ _ (Nat.mul_mod_right _ _) l2]
  rfl

/-- Is it a width? -/
def widthB (n : Int) : Bool := n == 1 || n == 2 || n == 4 || n == 8
theorem widthB_cases {n : Int} (h : widthB n = true) : n = 1 ∨ n = 2 ∨ n = 4 ∨ n = 8 := by
  simp [widthB] at h; omega
theorem widthB_no {n : Int} (h : widthB n = false) : n ≠ 1 ∧ n ≠ 2 ∧ n ≠ 4 ∧ n ≠ 8 := by
  simp [widthB] at h; omega
end Go.Proofs.Ytdmihbicpjmgjaa
