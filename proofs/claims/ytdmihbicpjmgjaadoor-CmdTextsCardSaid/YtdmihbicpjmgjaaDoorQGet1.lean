/-
  Reading short forms: the plain function, and the contracts of GetShort (the program's and the document's) and Short.
-/
import Derived.Test.YtdmihbicpjmgjaaDoorQPut1
import Derived.Test.YtdmihbicpjmgjaaDoorQBytes1
namespace Go.Proofs.YtdmihbicpjmgjaaDoor
open Go.RowKit
set_option linter.unusedVariables false

/-- What is read: the number, how many bytes, the error's number. -/
def getR : Nat → Nat → List UInt8 → Nat × Nat × Nat
  | _, _, [] => (0, 0, 2)
  | i, acc, c :: t =>
    if i = 9 ∧ 1 < c.toNat then (0, 0, 5)
    else if 128 ≤ c.toNat then getR (i + 1) (acc + c.toNat % 128 * 2 ^ (7 * i)) t
    else if c.toNat = 0 ∧ 0 < i then (0, 0, 5)
    else (acc + c.toNat % 128 * 2 ^ (7 * i), i + 1, 0)
def getF (l : List UInt8) : Nat × Nat × Nat := getR 0 0 l

structure GetInv (l : List UInt8) (j acc : Nat) : Prop where
  whole : getF l = getR j acc (l.drop j)
  upto : j ≤ 9
  small : acc < 2 ^ (7 * j)
theorem GetInv.start (l : List UInt8) : GetInv l 0 0 := ⟨rfl, by omega, by decide⟩
section
variable {l : List UInt8} {j acc y : Nat}
theorem GetInv.end_ (h : GetInv l j acc) (hj : l.length ≤ j) : getF l = (0, 0, 2) := by
  rw [h.whole, List.drop_eq_nil_of_le hj, getR]
theorem GetInv.form (h : GetInv l j acc) (hj : j < l.length) (hy : y = l[j].toNat) (h9 : j = 9) (h1 : 1 < y) : getF l = (0, 0, 5) := by
  rw [h.whole, List.drop_eq_getElem_cons hj, getR, if_pos ⟨h9, by omega⟩]
theorem GetInv.zero (h : GetInv l j acc) (hj : j < l.length) (hy : y = l[j].toNat) (h0 : y = 0) (h1 : 0 < j) : getF l = (0, 0, 5) := by
  rw [h.whole, List.drop_eq_getElem_cons hj, getR, if_neg (by omega), if_neg (by omega), if_pos ⟨by omega, h1⟩]
theorem GetInv.done (h : GetInv l j acc) (hj : j < l.length) (hy : y = l[j].toNat) (h9 : ¬ (j = 9 ∧ 1 < y)) (h1 : y < 128) (h2 : ¬ (y = 0 ∧ 0 < j)) : getF l = (acc + y % 128 * 2 ^ (7 * j), j + 1, 0) := by
  rw [h.whole, List.drop_eq_getElem_cons hj, getR, if_neg (by omega), if_neg (by omega), if_neg (by omega), ← hy]
theorem GetInv.step (h : GetInv l j acc) (hj : j < l.length) (hy : y = l[j].toNat) (h9 : ¬ (j = 9 ∧ 1 < y)) (h1 : 128 ≤ y) : GetInv l (j + 1) (acc + y % 128 * 2 ^ (7 * j)) := by
  have hs := h.small
  refine ⟨by rw [h.whole, List.drop_eq_getElem_cons hj, getR, if_neg (by omega), if_pos (by omega), ← hy], by have := h.upto; omega, ?_⟩
  have e : 2 ^ (7 * (j + 1)) = 128 * 2 ^ (7 * j) := by rw [show (128 : Nat) = 2 ^ 7 from rfl, ← Nat.pow_add]; congr 1; omega
  rw [e]
  have h3 : y % 128 * 2 ^ (7 * j) ≤ 127 * 2 ^ (7 * j) := Nat.mul_le_mul_right _ (by omega)
  omega
/-- No byte leads past 64 bits. -/
theorem GetInv.fits (h : GetInv l j acc) (hy : y < 256) (h9 : ¬ (j = 9 ∧ 1 < y)) : y % 128 * 2 ^ (7 * j) < 18446744073709551616 ∧ acc + y % 128 * 2 ^ (7 * j) < 18446744073709551616 ∧ acc < 18446744073709551616 ∧ 2 ^ (7 * j) < 18446744073709551616 := by
  have hs := h.small
  have hu := h.upto
  by_cases hj9 : j = 9
  · subst hj9
    have : y % 128 ≤ 1 := by omega
    simp only [show 7 * 9 = 63 from rfl] at *
    omega
  · have h2 : 2 ^ (7 * j) ≤ 2 ^ 56 := Nat.pow_le_pow_right (by decide) (by omega)
    have h3 : y % 128 * 2 ^ (7 * j) ≤ 127 * 2 ^ 56 := Nat.mul_le_mul (by omega) h2
    simp only [show (2 : Nat) ^ 56 = 72057594037927936 from rfl] at *
    omega
end
theorem or_code (acc y j : Nat) (h : acc < 2 ^ (7 * j)) (hy : y < 256) (h1 : y % 128 * 2 ^ (7 * j) < 18446744073709551616) (h2 : acc < 18446744073709551616) :
    bits .or .u64 (acc : Int) (IntKind.u64.wrap (IntKind.u64.wrap (bits .andNot .u8 (y : Int) 128) * 2 ^ (7 * j))) = ((acc + y % 128 * 2 ^ (7 * j) : Nat) : Int) := by
  have e1 : bits .andNot .u8 (y : Int) 128 = ((y % 128 : Nat) : Int) := by
    have := u8_andNot_nat y 128 hy (by omega)
    rw [show ((128 : Nat) : Int) = 128 from rfl] at this
    rw [this, show 255 - 128 = 127 from rfl, nat_mask7]
  rw [e1, IntKind.wrap_u64, IntKind.wrap_u64, show ((y % 128 : Nat) : Int) % 18446744073709551616 = ((y % 128 : Nat) : Int) from by omega]
  have e2 : ((y % 128 : Nat) : Int) * 2 ^ (7 * j) = ((y % 128 * 2 ^ (7 * j) : Nat) : Int) := by push_cast; rfl
  rw [e2, show ((y % 128 * 2 ^ (7 * j) : Nat) : Int) % 18446744073709551616 = ((y % 128 * 2 ^ (7 * j) : Nat) : Int) from by omega, u64_or_nat _ _ h2 h1, Nat.or_comm, nat_join (7 * j) _ _ (Nat.mul_mod_left _ _) h]
  omega

/-- A short form is read as it was laid, whatever stands behind it. -/
theorem getR_short (k i acc m : Nat) (t : List UInt8) (hk : i + k = 9) (hm : m < 2 * 128 ^ k) (h0 : 0 < i → 0 < m) :
    getR i acc (shortF k m ++ t) = (acc + m * 2 ^ (7 * i), i + (shortF k m).length, 0) := by
  induction k generalizing i acc m with
  | zero =>
    have hm2 : m < 2 := by simpa using hm
    rw [shortF, List.singleton_append, getR, lowB_toNat, if_neg (by omega), if_neg (by omega), if_neg (by omega)]
    simp
    rw [Nat.mod_eq_of_lt (by omega)]
  | succ k ih =>
    by_cases h : m < 128
    · rw [shortF_small _ _ h, List.singleton_append, getR, lowB_toNat, if_neg (by omega), if_neg (by omega), if_neg (by omega)]
      simp
      rw [Nat.mod_eq_of_lt (by omega)]
    · rw [shortF_big _ _ h, List.cons_append, getR, lowB_toNat, if_neg (by omega), if_pos (by omega), ih (i + 1) _ (m / 128) (by omega)]
      · have e : 2 ^ (7 * (i + 1)) = 128 * 2 ^ (7 * i) := by rw [show (128 : Nat) = 2 ^ 7 from rfl, ← Nat.pow_add]; congr 1; omega
        rw [e, show (m % 128 + 128) % 256 % 128 = m % 128 from by omega]
        refine Prod.ext ?_ (Prod.ext ?_ rfl)
        · simp only []
          rw [← Nat.mul_assoc, Nat.add_assoc, ← Nat.add_mul]
          congr 2
          omega
        · simp; omega
      · rw [Nat.div_lt_iff_lt_mul (by decide)]; rw [pow_two_128] at hm; exact hm
      · intro _; omega
theorem getF_short (n : Nat) (t : List UInt8) (h : n < 18446744073709551616) : getF (shortL n ++ t) = (n, (shortL n).length, 0) := by
  unfold getF shortL
  rw [getR_short 9 0 0 n t rfl (by omega) (by omega)]
  simp
theorem shortF_mono (k n m : Nat) (h : n ≤ m) : (shortF k n).length ≤ (shortF k m).length := by
  induction k generalizing n m with
  | zero => simp [shortF]
  | succ k ih =>
    by_cases hn : n < 128
    · rw [shortF_small _ _ hn]; have := (shortF_len (k + 1) m).1; simpa using this
    · rw [shortF_big _ _ hn, shortF_big _ _ (by omega)]
      have := ih (n / 128) (m / 128) (by omega)
      simpa using this
theorem shortL_mono (n m : Nat) (h : n ≤ m) : (shortL n).length ≤ (shortL m).length := shortF_mono 9 n m h
theorem shortL_len (n : Nat) : 1 ≤ (shortL n).length ∧ (shortL n).length ≤ 10 := shortF_len 9 n

theorem add_code (acc y j u : Nat) (hu : u = 2 ^ (7 * j)) (h1 : acc + y % 128 * 2 ^ (7 * j) < 18446744073709551616) :
    IntKind.u64.wrap ((acc : Int) + IntKind.u64.wrap ((y : Int) % 128 * (u : Int))) = ((acc + y % 128 * 2 ^ (7 * j) : Nat) : Int) := by
  rw [hu]
  have e : (y : Int) % 128 * ((2 ^ (7 * j) : Nat) : Int) = ((y % 128 * 2 ^ (7 * j) : Nat) : Int) := by push_cast; rfl
  rw [e, IntKind.wrap_u64, IntKind.wrap_u64]
  omega
theorem unit_code (j u : Nat) (hu : u = 2 ^ (7 * j)) (hj : j ≤ 8) : IntKind.u64.wrap ((u : Int) * 128) = ((2 ^ (7 * (j + 1)) : Nat) : Int) := by
  have e : 2 ^ (7 * (j + 1)) = 2 ^ (7 * j) * 128 := by rw [show (128 : Nat) = 2 ^ 7 from rfl, ← Nat.pow_add]; congr 1
  have h : 2 ^ (7 * j) ≤ 2 ^ 56 := Nat.pow_le_pow_right (by decide) (by omega)
  rw [e, ← hu, IntKind.wrap_u64]
  rw [← hu, show (2 : Nat) ^ 56 = 72057594037927936 from rfl] at h
  omega

end Go.Proofs.YtdmihbicpjmgjaaDoor
namespace Go.Proofs.YtdmihbicpjmgjaaDoor
open Go.RowKit
set_option linter.unusedVariables false

theorem join8 (m : Nat) (x : UInt8) (hm : m < 72057594037927936) : bits .or .u64 (IntKind.u64.wrap ((m : Int) * 256)) (x.toNat : Int) = ((m * 256 + x.toNat : Nat) : Int) := by
  have hx := x.toNat_lt
  rw [IntKind.wrap_u64, show ((m : Int) * 256) % 18446744073709551616 = ((m * 256 : Nat) : Int) from by omega, u64_or_nat _ _ (by omega) (by omega), nat_join 8 _ _ (by omega) hx]
theorem numL_take_snoc {l : List UInt8} {k : Nat} (h : k < l.length) : numL (l.take (k + 1)) = numL (l.take k) * 256 + l[k].toNat := by
  rw [take_snoc h, numL_snoc]
theorem numL_take_lt (l : List UInt8) (k j : Nat) (h : k ≤ j) : numL (l.take k) < 2 ^ (8 * j) := by
  have h1 := numL_lt (l.take k)
  have h2 : (l.take k).length ≤ j := Nat.le_trans (List.length_take_le _ _) h
  exact Nat.lt_of_lt_of_le h1 (Nat.pow_le_pow_right (by decide) (by omega))

/-- What of n fits a width. -/
def narrowF (n W : Nat) : Nat := n % 2 ^ (8 * W)
theorem ret_narrow {k : IntKind} {a a' n : Int} (h : a = a') : Ending.returned (.tuple #[.int k a, .bool (a == n)]) = .returned (.tuple #[.int k a', .bool (a' == n)]) := by rw [h]
theorem narrow_1 (n : Nat) : (n : Int) % 256 = (narrowF n 1 : Nat) := by simp only [narrowF]; omega
theorem narrow_2 (n : Nat) : IntKind.u64.wrap (IntKind.u16.wrap (n : Int)) = (narrowF n 2 : Nat) := by simp only [narrowF, IntKind.wrap_u64, IntKind.wrap_u16]; omega
theorem narrow_4 (n : Nat) : (n : Int) % 4294967296 = (narrowF n 4 : Nat) := by simp only [narrowF]; omega
theorem narrow_8 (n : Nat) (h : n < 18446744073709551616) : narrowF n 8 = n := Nat.mod_eq_of_lt h
theorem ret_narrow8 {n : Nat} (h : n < 18446744073709551616) : Ending.returned (.tuple #[.int .u64 (n : Int), .bool true]) = .returned (.tuple #[.int .u64 (narrowF n 8 : Nat), .bool ((narrowF n 8 : Int) == (n : Int))]) := by
  rw [narrow_8 n h]; simp
end Go.Proofs.YtdmihbicpjmgjaaDoor
